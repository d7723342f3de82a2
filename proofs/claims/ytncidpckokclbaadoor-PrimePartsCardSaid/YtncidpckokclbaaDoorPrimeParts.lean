/- PrimeParts: whatever the two numbers, the law answers true, and nothing that was there has turned. No condition. -/
import Derived.Test.YtncidpckokclbaaDoorAwake02
import Derived.Test.YtncidpckokclbaaDoorRefParts
import Derived.Test.YtncidpckokclbaaDoorPartsMath
import Derived.Test.YtncidpckokclbaaDoorDoor
namespace Go.Proofs.YtncidpckokclbaaDoor.primeParts
open Go.ChangeShapes Go.WideShapes Go.ChangeAt Go.RowKit Go.Maps

/-- the prime ahead of one -/
def before (ps : List (Int × Int)) : Nat → Int
  | 0 => 1
  | k + 1 => (ps.getD k (0, 0)).1

set_option maxRecDepth 100000 in
set_option maxHeartbeats 1000000 in
theorem walk (n0 m0 : Int) (w : World) (hn : (Lit.int .u64 n0).wf = true) (hm : (Lit.int .u64 m0).wf = true) (hT : Tab w) :
    Calls Tryd.prog 4 #[.int .u64 n0, .int .u64 m0] w (Ret (.bool true) w) := by
  have hn2 := u64_wf hn
  have hm2 := u64_wf hm
  have HT := hid hT
  clear hn hm hT
  obtain ⟨m, em⟩ : ∃ m, m0 % 16777216 = m := ⟨_, rfl⟩
  have hmr := mod_range (p := 16777216) m0 (by omega)
  rw [em] at hmr
  have hsm := small_is hmr.1 (show m < 4294967296 by omega)
  obtain ⟨b, eb⟩ : ∃ b, isB m = b := ⟨_, rfl⟩
  rw [eb] at hsm
  have HSM := hid hsm; have HIS := hid eb
  obtain ⟨⟨ps, er⟩, ed⟩ : ∃ x, partsD n0 = x := ⟨_, rfl⟩
  have hP := fun w0 => Parts_any n0 w0 hn2.1 hn2.2
  have hR := fun w0 => rParts_any n0 w0 hn2.1 hn2.2
  have hO := partsD_ok n0
  have hOk := partsD_Ok n0
  have hfull := @partsD_full n0
  have hzero : er ≠ 0 → ps = [] := fun h => by
    have h1 := ed
    unfold partsD at h1
    split at h1
    · simp at h1; exact h1.1
    · simp only at h1
      split at h1
      · simp at h1; exact h1.1
      · split at h1 <;> simp at h1 <;> exact absurd h1.2.symm h
  rw [ed] at hP hR hO hOk hfull
  simp only at hP hR hO hOk hfull
  have HP := hid hP; have HR := hid hR; have HO := hid hO; have HOk := hid hOk; have HF := hid hfull; have HZ := hid hzero
  clear hsm eb hP hR hO hOk hfull hzero ed
  have bbb : (b != b) = false := by simp
  go_enter Tryd.func4, Tryd.ntmps4
  go_wp2_with fail
  refine (awake02 _ HT.out).mono ?_; rintro _ w1 ⟨rfl, x1⟩
  go_wp2_with fail
  refine (HP.out _).mono ?_; rintro _ w2 ⟨v, rfl, hrow, x2⟩
  have hv := Parts.own hrow
  obtain ⟨a, cap, rfl⟩ := ownsRow_slice hrow
  have HV := hid hv
  clear hrow hv
  go_wp2_with fail
  refine (HR.out _).mono ?_; rintro _ w3 ⟨v, rfl, hrow, x3⟩
  have hv := Parts.own hrow
  obtain ⟨a', cap', rfl⟩ := ownsRow_slice hrow
  have HU := hid hv
  clear hrow hv
  go_wp2_with fail
  refine (Same_eq _ _ ps _ (HV.out.ext x3) HU.out).mono ?_; rintro _ w4 ⟨rfl, x4⟩
  go_wp2_with fail
  refine (Small_any m _ hmr.1 (by omega)).mono ?_; rintro _ w5 ⟨rfl, x5⟩
  rw [HSM.out]
  go_wp2_with fail
  refine (Is_any m _ hmr.1 (by omega)).mono ?_; rintro _ w6 ⟨rfl, rfl⟩
  rw [HIS.out]
  have hw : Ext w w5 := ((((x1.trans x2).trans x3).trans x4).trans x5)
  have hv5 := HV.out.ext ((x3.trans x4).trans x5)
  obtain ⟨a1, c1, e1, p1, p2, p3⟩ := hv5
  injection e1 with e1 e2 e3
  subst e1; subst e3
  have H3 := hid p3
  clear p3
  by_cases h0 : er = 0
  · have b0 : (er != 0) = false := by simpa using h0
    have hf := HF.out h0
    have hfr := hf.2.2.2.1
    have HFS := hid hf.2.2.1; have HFR := hid hfr; have HFI := hid hf.2.2.2.2
    have hnn := hf.1
    clear hf hfr h0
    go_wp2_with fail
    have hw5 : Ext w5 w5 := Ext.refl _
    go_loopw [9, 0] (fun i x wr => ∃ (k : Nat) (n' : Int), i = .int .i64 k ∧ x = .int .u64 n' ∧ k ≤ ps.length ∧ 1 ≤ n' ∧ n' ≤ 18446744073709551615 ∧ steps (ps.drop k) n' = some 1 ∧ rises (before ps k) (ps.drop k) ∧ Ext w5 wr) (fun i _ _ => ps.length - (intOf i).toNat)
    case atStart => exact ⟨0, n0, rfl, rfl, by omega, hnn, hn2.2, HFS.out, HFR.out, hw5⟩
    case round =>
      obtain ⟨k, n', rfl, rfl, hk, hn0', hn1', hst, hri, hxw⟩ := hrel
      by_cases hlt : k < ps.length
      · have hd : ps.drop k = ps.getD k (0, 0) :: ps.drop (k + 1) := by
          rw [List.drop_eq_getElem_cons hlt]; simp [List.getD, List.getElem?_eq_getElem hlt]
        have hmem := getD_mem (xs := ps) (0, 0) hlt
        have hbf : before ps (k + 1) = (ps.getD k (0, 0)).1 := rfl
        obtain ⟨b', off, rfl, hb', hcell⟩ := H3.out (by omega)
        have g1 := (hxw.cells _ _ hb').trans (hcell k hlt).1
        have g2 := (hxw.cells _ _ hb').trans (hcell k hlt).2
        have hok := HO.out _ hmem
        have hib := (isB_iff _).2 (HFI.out _ hmem)
        have hprev : ∀ j, k = j + 1 → wr.cell? ⟨b', off + j * 2, none⟩ = some (.int .u64 (before ps k)) := fun j e => by
          subst e
          exact (hxw.cells _ _ hb').trans (hcell j (by omega)).1
        rw [hd] at hst hri
        generalize ps.getD k (0, 0) = q at *
        obtain ⟨q1, q2⟩ := q
        simp only at g1 g2 hok hib hbf
        obtain ⟨r1, r2, r3⟩ := hri
        rw [← hbf] at r3
        rw [steps] at hst
        obtain ⟨m', hdv, hst2⟩ : ∃ m', divs q1 q2.toNat n' = some m' ∧ steps (ps.drop (k + 1)) m' = some 1 := by
          cases e : divs q1 q2.toNat n' with
          | none => rw [e] at hst; cases hst
          | some x => rw [e] at hst; exact ⟨x, rfl, hst⟩
        have HDV := hid hdv; have HST := hid hst2; have HRI := hid r3
        have HIB := hid hib
        have hb1 : decide (q2 < 1) = false := by simp; omega
        clear hst hdv hst2 r3 hcell hd hmem hib hbf
        rcases Nat.eq_zero_or_pos k with hzero | hpos
        · have hb9 : decide ((0 : Int) < (k : Int)) = false := by simp; omega
          have hb8 : decide (0 < k) = false := by simp; omega
          have hb7 : ¬ 0 < k := by omega
          have HZE := hid hzero
          clear hprev hzero
          go_wp2_with fail
          go_quiet ((go_at_call 20; exact quiet_l (Is_as q1 true _ (by omega) (by omega) HIB.out)))
          go_wp2_with fail
          go_loop [10, 0] (fun i x => ∃ (t : Nat) (y : Int), i = .int .i64 t ∧ x = .int .u64 y ∧ (t : Int) ≤ q2 ∧ 1 ≤ y ∧ y ≤ 18446744073709551615 ∧ divs q1 (q2.toNat - t) y = some m') (fun i _ => q2.toNat - (intOf i).toNat)
          case atStart => exact ⟨0, n', rfl, rfl, by omega, by omega, by omega, by simpa using HDV.out⟩
          case round =>
            obtain ⟨t, y, rfl, rfl, ht, hy0, hy1, hdv⟩ := hrel
            by_cases hlt2 : (t : Int) < q2
            · rw [show q2.toNat - t = (q2.toNat - (t + 1)) + 1 by omega, divs] at hdv
              by_cases hz : y % q1 = 0
              · rw [if_pos hz] at hdv
                have hh := strip_half (t := 0) (m := y) (by omega : 2 ≤ q1) hy0 hz (by simp)
                have h6 := hh.2.1; have h7 := hh.2.2
                have HD2 := hid hdv
                have bz : (y % q1 != 0) = false := by simpa using hz
                clear hdv hh hz
                go_wp2_with fail
                go_round
                case rel => exact ⟨t + 1, y / q1, by go_num, rfl, by omega, h6, by omega, HD2.out⟩
                case measure => simp [intOf]; omega
              · rw [if_neg hz] at hdv; cases hdv
            · rw [show q2.toNat - t = 0 by omega, divs] at hdv
              have hym : y = m' := by simpa using hdv
              subst hym
              clear hdv
              go_wp2_with fail
              go_roundw
              case rel => exact ⟨k + 1, y, by go_num, rfl, by omega, hy0, hy1, HST.out, HRI.out, (by repeat (first | exact Ext.refl _ | assumption | refine Ext.drew ?_ | refine Ext.drewN ?_ _ | refine Ext.alloc ?_ _ | refine Ext.trans ?_ (by assumption)))⟩
              case measure => simp [intOf]; omega
        · obtain ⟨j, rfl⟩ : ∃ j, k = j + 1 := ⟨k - 1, by omega⟩
          have g3 := hprev j rfl
          generalize before ps (j + 1) = pb at *
          have hb2 : decide (q1 ≤ pb) = false := by simp; omega
          clear hprev
          go_wp2_with fail
          go_quiet ((go_at_call 20; exact quiet_l (Is_as q1 true _ (by omega) (by omega) HIB.out)))
          go_wp2_with fail
          go_loop [10, 0] (fun i x => ∃ (t : Nat) (y : Int), i = .int .i64 t ∧ x = .int .u64 y ∧ (t : Int) ≤ q2 ∧ 1 ≤ y ∧ y ≤ 18446744073709551615 ∧ divs q1 (q2.toNat - t) y = some m') (fun i _ => q2.toNat - (intOf i).toNat)
          case atStart => exact ⟨0, n', rfl, rfl, by omega, by omega, by omega, by simpa using HDV.out⟩
          case round =>
            obtain ⟨t, y, rfl, rfl, ht, hy0, hy1, hdv⟩ := hrel
            by_cases hlt2 : (t : Int) < q2
            · rw [show q2.toNat - t = (q2.toNat - (t + 1)) + 1 by omega, divs] at hdv
              by_cases hz : y % q1 = 0
              · rw [if_pos hz] at hdv
                have hh := strip_half (t := 0) (m := y) (by omega : 2 ≤ q1) hy0 hz (by simp)
                have h6 := hh.2.1; have h7 := hh.2.2
                have HD2 := hid hdv
                have bz : (y % q1 != 0) = false := by simpa using hz
                clear hdv hh hz
                go_wp2_with fail
                go_round
                case rel => exact ⟨t + 1, y / q1, by go_num, rfl, by omega, h6, by omega, HD2.out⟩
                case measure => simp [intOf]; omega
              · rw [if_neg hz] at hdv; cases hdv
            · rw [show q2.toNat - t = 0 by omega, divs] at hdv
              have hym : y = m' := by simpa using hdv
              subst hym
              clear hdv
              go_wp2_with fail
              go_roundw
              case rel => exact ⟨j + 1 + 1, y, by go_num, rfl, by omega, hy0, hy1, HST.out, HRI.out, (by repeat (first | exact Ext.refl _ | assumption | refine Ext.drew ?_ | refine Ext.drewN ?_ _ | refine Ext.alloc ?_ _ | refine Ext.trans ?_ (by assumption)))⟩
              case measure => simp [intOf]; omega
      · have hdn : ps.drop k = [] := List.drop_eq_nil_of_le (by omega)
        rw [hdn] at hst
        have : n' = 1 := by simpa [steps] using hst
        subst this
        clear hst hri
        go_wp2_with fail
        go_ret
        exact ⟨rfl, (by repeat (first | exact Ext.refl _ | assumption | refine Ext.drew ?_ | refine Ext.drewN ?_ _ | refine Ext.alloc ?_ _ | refine Ext.trans ?_ (by assumption)))⟩
  · have b0 : (er != 0) = true := by simpa using h0
    have hps := HZ.out h0
    subst hps
    clear h0
    go_wp2_with fail
    go_ret
    exact ⟨rfl, (by repeat (first | exact Ext.refl _ | assumption | refine Ext.drew ?_ | refine Ext.drewN ?_ _ | refine Ext.alloc ?_ _ | refine Ext.trans ?_ (by assumption)))⟩
theorem contract (H : Type) (enc : TypeId × Value → H) (W : World) (base : Nat) (args : Array Value) (ds gs : List (DataW H)) (before : List MemPlace)
    (hval : ∀ (j : Nat) t v, Tryd.f4.params[j]? = some t → args[j]? = some v → Value.okWide Tryd.prog W .any base t v)
    (hW : DataW.Whole enc Tryd.prog Tryd.f4.params.toList Rows.primePartsSpec.vars false W args.toList ds gs before) (hL : laidMetH Tryd.prog Rows.primePartsRow.laid W) :
    Calls Tryd.prog 4 args W fun e W' => ∃ v, e = .returned v ∧ Rows.primePartsSpec.post enc Tryd.prog Tryd.f4 false true false false W args v W' := by
  have hW' := hW
  obtain ⟨p, q, hA0, hV, rfl, _, _⟩ := hW
  have hA : DataW.TrodAll enc Tryd.prog W 0 (fun _ => true) true Tryd.f4.params.toList args.toList ds p := hA0
  rw [Tryd.params4] at hA hval
  obtain ⟨v0, vs0, d0, ds0, p0, q0, hargs, rfl, rfl, h0, r0⟩ := trodAll_cons hA
  obtain ⟨v1, vs1, d1, ds1, p1, q1, rfl, rfl, rfl, h1, r1⟩ := trodAll_cons r0
  obtain ⟨rfl, rfl, rfl⟩ := trodAll_nil r1
  obtain rfl : args = #[v0, v1] := by cases args; simp_all
  obtain ⟨rfl, rfl⟩ := trodVars_none hV
  obtain ⟨a0, rfl, rfl, rfl, w0⟩ := open_int Tryd.underlying23 (hval 0 23 v0 rfl rfl) h0
  obtain ⟨a1, rfl, rfl, rfl, w1⟩ := open_int Tryd.underlying23 (hval 1 23 v1 rfl rfl) h1
  refine (walk a0 a1 W w0 w1 (tab_of hL)).mono fun e W' ⟨he, hg⟩ => ⟨_, he, ?_⟩
  exact law_post (by kernel_rfl) (by kernel_rfl) rfl Tryd.underlying4 rfl rfl hW' hg
theorem laid_met (os : Os) : laidMet Tryd.prog Rows.primePartsRow.laid ((laidWorld os).forCall (fun _ _ => 0) ⟨#[], #[.int .u64 0, .int .u64 0], []⟩).memory :=
  laidMet_of_run' 70 (by kernel_rfl) (by kernel_rfl)
theorem reads (os : Os) {H : Type} (enc : TypeId × Value → H) : ∃ places, DataW.whole enc Tryd.prog ((laidWorld os).forCall (fun _ _ => 0) ⟨#[], #[.int .u64 0, .int .u64 0], []⟩).memory Tryd.f4.params.toList Rows.primePartsSpec.vars false #[(Value.int .u64 0), (Value.int .u64 0)].toList 8 = some ([.lit (.int .u64 0), .lit (.int .u64 0)], [], places) :=
  ⟨[], by kernel_rfl⟩
set_option maxRecDepth 100000 in
theorem lifted (os : Os) (started : os.Started) (H : Type) (enc : TypeId × Value → H) (F : Stop.Interp) :
    ReturnsInHanded {} Tryd.checked os 4 .any ((OpenSpec.ofChange Rows.primePartsSpec).preRow enc Tryd.prog Tryd.f4 Rows.primePartsRow.domain false Rows.primePartsRow.laid) (((OpenSpec.ofChange Rows.primePartsSpec).at F).post enc Tryd.prog Tryd.f4 false true false false) := by
  obtain ⟨places, hx⟩ := reads os enc
  refine returnsInHanded_of_row (C := Tryd.checked) (s := OpenSpec.ofChange Rows.primePartsSpec) own started (by kernel_rfl) Tryd.func4
    (witness_row_at (enc := enc) (C := Tryd.checked) false (laidWorld os) #[.int .u64 0, .int .u64 0] rfl (by kernel_rfl) (by kernel_rfl) (by kernel_rfl)
      (OpenSpec.preRow_of_cond 8 hx (by kernel_rfl) (fun k hk => by cases hk) (by kernel_rfl) (laid_met os))) ?_
  intro W base args ds gs before hval hW _ _ _ hL _ _
  exact contract H enc W base args ds gs before hval hW hL
theorem said : Rows.PrimePartsSaid :=
  OpenClaim.holds_of_cond 4 Tryd.f4 rfl rfl rfl rfl rfl rfl rfl ⟨rfl, rfl, rfl, rfl, rfl⟩ rfl rfl rfl rfl rfl (by kernel_rfl) Tryd.func4 (by kernel_rfl)
    (of_decide_eq_true (by kernel_rfl)) (by unfold Func.isWrapper; first | (rw [if_pos (by decide +kernel)]; kernel_rfl) | (rw [if_neg (by decide +kernel)]; exact ⟨rfl, rfl⟩))
    (fun os started H enc _ F => by rw [OpenClaim.pre_eq_preRow]; exact lifted os started H enc F)
theorem plain (f : FuncId) (fn : Func) (hf : Tryd.pinned.checked.prog.funcNamed "affidavit/affidavitlaw02.PrimeParts" = some f) (hfn : Tryd.pinned.checked.prog.funcs[f]? = some fn) :
    false = Tryd.pinned.checked.prog.looks [] ∧ ∀ (j : Nat) t, fn.params[j]? = some t → Tryd.pinned.checked.prog.wantsStandIn t = false := by
  obtain rfl : f = 4 := Option.some.inj ((show Tryd.prog.funcNamed "affidavit/affidavitlaw02.PrimeParts" = some 4 by kernel_rfl).symm.trans hf) |>.symm
  obtain rfl : fn = Tryd.f4 := (Option.some.inj (Tryd.func4.symm.trans hfn)).symm
  refine ⟨by kernel_rfl, fun j t ht => ?_⟩
  rw [Tryd.params4] at ht
  have hm : t ∈ ([23, 23] : List Nat) := by simpa using Array.mem_of_getElem? ht
  have hall : ∀ t ∈ ([23, 23] : List Nat), Tryd.prog.wantsStandIn t = false := List.all_eq_true.1 (show ([23, 23] : List Nat).all (fun t => Tryd.prog.wantsStandIn t == false) = true by kernel_rfl) |> fun h t ht => by simpa using h t ht
  exact hall t hm

/-- the statement -/
theorem card : Rows.PrimePartsCardSaid :=
  Claim7.holds_tied_plain_at .later [] _ _ _ _ said (fun _ h => by cases h) (by kernel_rfl) (fun _ h => by cases h) primeParts_row_tie rfl ⟨rfl, rfl⟩ (by kernel_rfl) rfl plain (by kernel_rfl)
end Go.Proofs.YtncidpckokclbaaDoor.primeParts
