/- PrimeBuilds: whatever the number, the law answers true, and nothing that was there has turned. No condition. -/
import Derived.Test.YthomeenmcajmdaaDoorBun13
import Derived.Test.YthomeenmcajmdaaDoorRefRoot
import Derived.Test.YthomeenmcajmdaaDoorBun06
import Derived.Test.YthomeenmcajmdaaDoorDoor
namespace Go.Proofs.YthomeenmcajmdaaDoor.primeBuilds
open Go.ChangeShapes Go.WideShapes Go.ChangeAt Go.RowKit Go.Maps

set_option maxRecDepth 100000 in
set_option maxHeartbeats 2000000 in
theorem walk (p0 : Int) (w : World) (hw0 : (Lit.int .u64 p0).wf = true) (hT : Tab w) :
    Calls Tryd.prog 3 #[.int .u64 p0] w (Ret (.bool true) w) := by
  have hp0 := u64_wf hw0
  have HT := hid hT
  clear hT hw0
  obtain ⟨p, ep⟩ : ∃ p, p0 % 16777216 = p := ⟨_, rfl⟩
  have hp1 : 0 ≤ p ∧ p < 16777216 := by omega
  have HBA := fun (w0 : World) (ht : Tab w0) => Build_at p w0 hp1.1 hp1.2 ht
  by_cases h2 : p < 2
  · have e : bErr p = 1 := by rw [bErr, if_pos h2]
    rw [e, bList_no (by omega)] at HBA
    have HB := hid HBA
    clear HBA e
    go_enter Tryd.func3, Tryd.ntmps3
    go_wp2_with fail
    refine (awake02 _ HT.out).mono ?_; rintro _ w1 ⟨rfl, x1⟩
    go_wp2_with fail
    refine (HB.out _ (HT.out.ext x1)).mono ?_; rintro _ w2 ⟨v, ⟨rfl, x2⟩, hps, -⟩
    obtain ⟨a, cap, rfl, -, -, -⟩ := hps
    simp only [List.length_nil]
    go_wp2_with fail
    go_ret
    exact ⟨rfl, (by repeat (first | exact Ext.refl _ | assumption | refine Ext.drew ?_ | refine Ext.drewN ?_ _ | refine Ext.alloc ?_ _ | refine Ext.trans ?_ (by assumption)))⟩
  cases hib : isB p with
  | false =>
    have e : bErr p = 6 := by rw [bErr, if_neg h2, hib, if_neg Bool.false_ne_true]
    rw [e, bList_no (by omega)] at HBA
    have HB := hid HBA
    have HI := hid hib
    clear HBA e hib
    go_enter Tryd.func3, Tryd.ntmps3
    go_wp2_with fail
    refine (awake02 _ HT.out).mono ?_; rintro _ w1 ⟨rfl, x1⟩
    go_wp2_with fail
    refine (HB.out _ (HT.out.ext x1)).mono ?_; rintro _ w2 ⟨v, ⟨rfl, x2⟩, hps, -⟩
    obtain ⟨a, cap, rfl, -, -, -⟩ := hps
    simp only [List.length_nil]
    go_wp2_with fail
    refine (Is_any p _ (by omega) (by omega)).mono ?_; rintro _ w3 ⟨rfl, rfl⟩
    rw [HI.out]
    go_wp2_with fail
    go_ret
    exact ⟨rfl, (by repeat (first | exact Ext.refl _ | assumption | refine Ext.drew ?_ | refine Ext.drewN ?_ _ | refine Ext.alloc ?_ _ | refine Ext.trans ?_ (by assumption)))⟩
  | true =>
    have e : bErr p = 0 := by rw [bErr, if_neg h2, hib, if_pos rfl]
    have eL : bList p = (builtL p).map (mkPrf genA) := by rw [bList, if_pos e]
    rw [e, eL] at HBA
    have HB := hid HBA
    have HI := hid hib
    clear HBA e hib eL
    by_cases hp2 : p = 2
    · have b2 : (p == 2) = true := by simpa using hp2
      have HP2 := hid hp2
      clear hp2
      go_enter Tryd.func3, Tryd.ntmps3
      go_wp2_with fail
      refine (awake02 _ HT.out).mono ?_; rintro _ w1 ⟨rfl, x1⟩
      go_wp2_with fail
      refine (HB.out _ (HT.out.ext x1)).mono ?_; rintro _ w2 ⟨v, ⟨rfl, x2⟩, hps, hbf⟩
      have HBF := hid (hbf (by trivial))
      have HS := hid (bList_shows HBF.out)
      have HO := hid (mkPrf_ok HBF.out)
      rw [HBF.out.two HP2.out, List.map_nil] at HS HO hps
      have HPS := hid hps
      obtain ⟨a, cap, rfl, -, -, -⟩ := hps
      simp only [List.length_nil] at HPS
      clear hbf
      simp only [List.length_nil]
      go_wp2_with fail
      refine (Is_any p _ (by omega) (by omega)).mono ?_; rintro _ w3 ⟨rfl, rfl⟩
      rw [HI.out]
      go_wp2_with fail
      refine (Shows_any _ [] p _ HPS.out HO.out).mono ?_; rintro _ w4 ⟨rfl, x4⟩
      rw [HS.out]
      go_wp2_with fail
      refine wp_loop_rounds 1 ?_
      rw [rounds_succ]
      go_wp2_with fail
      go_ret
      exact ⟨rfl, (by repeat (first | exact Ext.refl _ | assumption | refine Ext.drew ?_ | refine Ext.drewN ?_ _ | refine Ext.alloc ?_ _ | refine Ext.trans ?_ (by assumption)))⟩
    · have b2 : (p == 2) = false := by simpa using hp2
      have HP2 := hid hp2
      clear hp2
      go_enter Tryd.func3, Tryd.ntmps3
      go_wp2_with fail
      refine (awake02 _ HT.out).mono ?_; rintro _ w1 ⟨rfl, x1⟩
      go_wp2_with fail
      refine (HB.out _ (HT.out.ext x1)).mono ?_; rintro _ w2 ⟨v, ⟨rfl, x2⟩, hps, hbf⟩
      have HBF := hid (hbf (by trivial))
      have HS := hid (bList_shows HBF.out)
      have HO := hid (mkPrf_ok HBF.out)
      have HPS := hid hps
      obtain ⟨m, hm, hlast⟩ := built_last HBF.out HP2.out
      have hll : ((builtL p).map (mkPrf genA)).length = m + 1 := by rw [List.length_map]; exact hm
      obtain ⟨a, cap, rfl, c1, c2, c3⟩ := hps
      rw [hll] at c1 c3 HPS ⊢
      have hml : m + 1 ≤ 24 := by have := HBF.out.len; omega
      obtain ⟨b, off, rfl, hb, hcl⟩ := c3 (by omega)
      have hgt : ∀ k, k < m + 1 → ((builtL p).map (mkPrf genA)).getD k .zero = mkPrf genA ((builtL p).getD k 0) := fun k hk => by
        simp [List.getD, List.getElem?_eq_getElem (show k < (builtL p).length by omega)]
      have hcl2 : ∀ k, k < m + 1 → w2.cell? ⟨b, off + k * 3, none⟩ = some (.int .u64 ((builtL p).getD k 0)) ∧ w2.cell? ⟨b, off + k * 3 + 1, none⟩ = some (.int .u64 (genA ((builtL p).getD k 0))) ∧
          ∃ v', w2.cell? ⟨b, off + k * 3 + 2, none⟩ = some v' ∧ Parts w2 v' (partsOf ((builtL p).getD k 0)) := fun k hk => by
        have := hcl k hk
        rw [hgt k hk] at this
        exact this
      have HCL := hid hcl2; have HM := hid hm; have HLA := hid hlast
      have hfst : (((m + 1 : Nat) : Int) == 0) = false := by simp; omega
      clear hbf c3 hcl hcl2 hm hlast hgt hll
      go_wp2_with fail
      refine (Is_any p _ (by omega) (by omega)).mono ?_; rintro _ w3 ⟨rfl, rfl⟩
      rw [HI.out]
      go_wp2_with fail
      refine (Shows_any _ _ p _ HPS.out HO.out).mono ?_; rintro _ w4 ⟨rfl, x4⟩
      rw [HS.out]
      go_wp2_with fail
      go_loopw [5] (fun i wr => ∃ k : Nat, i = .int .i64 k ∧ k ≤ m + 1 ∧ Ext w2 wr) (fun i _ => m + 1 - (intOf i).toNat)
      case atStart => exact ⟨0, rfl, by omega, (by repeat (first | exact Ext.refl _ | assumption | refine Ext.drew ?_ | refine Ext.drewN ?_ _ | refine Ext.alloc ?_ _ | refine Ext.trans ?_ (by assumption)))⟩
      case round =>
        obtain ⟨k, rfl, hk, hx⟩ := hrel
        by_cases hlt : k < m + 1
        · have hkl : k < (builtL p).length := by rw [HM.out]; exact hlt
          obtain ⟨g1, g2, v', g3, hpv⟩ := HCL.out k hlt
          have hall := HBF.out.all (getD_mem (xs := builtL p) 0 hkl)
          have hneed := built_need HBF.out hkl
          obtain ⟨n, en⟩ : ∃ n, (builtL p).getD k 0 = n := ⟨_, rfl⟩
          rw [en] at g1 g2 hpv hall hneed
          obtain ⟨N, rfl⟩ : ∃ N : Nat, n = N := ⟨n.toNat, by omega⟩
          obtain ⟨g, eg, gg1, gg2, gr1, gr2, gr3⟩ := root_facts hall.1 (by omega) (by omega)
          rw [eg] at g2
          have C1W := hid g1
          have c1' := (hx.cells _ _ hb).trans g1
          have c2' := (hx.cells _ _ hb).trans g2
          have c3' := (hx.cells _ _ hb).trans g3
          have HPV := hid (hpv.ext hx)
          obtain ⟨pa, pc, rfl, -, -, -⟩ := hpv
          have hwrn : IntKind.u64.wrap ((N : Int) - 1) = (N : Int) - 1 := by rw [u64_wrap]; omega
          have HRR := hid (fun (W : World) (u : Value) (hu : Parts W u (partsOf N)) => rRoot N g u (partsOf N) W (by omega) (by omega) hu gr3 gg1 gg2 gr1 gr2)
          have HNE := hid hneed
          have hN3 : 3 ≤ N ∧ N < 16777216 := by omega
          have hbg : ((g : Int) != (g : Int)) = false := by simp
          clear g1 g2 g3 eg gr1 gr2 gr3 hneed en hall
          obtain ⟨B0, eB0⟩ : ∃ B0, ((N : Int) == p) = B0 := ⟨_, rfl⟩
          have HB0 := hid eB0
          go_wp2_with fail
          refine (rParts_any ((N : Int) - 1) _ (by omega) (by omega)).mono ?_; rintro _ w5 ⟨u, rfl, hu, x5⟩
          have hup := hid (Parts.own hu)
          obtain ⟨ua, uc, rfl⟩ := ownsRow_slice hu
          have HPV5 := hid (HPV.out.ext x5)
          have d1 := (x5.cells _ _ (Nat.lt_of_lt_of_le hb hx.size)).trans c1'
          have d2 := (x5.cells _ _ (Nat.lt_of_lt_of_le hb hx.size)).trans c2'
          have d3 := (x5.cells _ _ (Nat.lt_of_lt_of_le hb hx.size)).trans c3'
          have hx5 : Ext w2 w5 := hx.trans x5
          have hplen : (partsD ((N : Int) - 1)).1.length = (partsOf (N : Int)).length := rfl
          clear hu c1' c2' c3'
          go_wp2_with fail
          go_quiet ((first
            | (go_at_call 9; exact quiet_d (Same_eqD _ _ (partsOf N) _ (HPV5.out.ext ((Ext.refl _).drewN _)) (hup.out.ext ((Ext.refl _).drewN _))))
            | (go_at_call 9; exact quiet_add_d (Same_eqD _ _ (partsOf N) _ (HPV5.out.ext ((Ext.refl _).drewN _)) (hup.out.ext ((Ext.refl _).drewN _))))
            | (go_at_call 10; exact quiet_d (HRR.out _ _ (hup.out.ext ((Ext.refl _).drewN _))))
            | (go_at_call 10; exact quiet_add_d (HRR.out _ _ (hup.out.ext ((Ext.refl _).drewN _))))))
          go_wp2_with fail
          go_loopw [9, 8] (fun i bb wj => ∃ (t : Nat) (B : Bool), i = .int .i64 t ∧ bb = .bool B ∧ k + 1 ≤ t ∧ t ≤ m + 1 ∧ NdB p N B0 k t B ∧ Ext w2 wj) (fun i _ _ => m + 1 - (intOf i).toNat)
          case atStart => exact ⟨k + 1, B0, by go_num, rfl, Nat.le_refl _, by omega, NdB.start, (by repeat (first | exact Ext.refl _ | assumption | refine Ext.drew ?_ | refine Ext.drewN ?_ _ | refine Ext.alloc ?_ _ | refine Ext.trans ?_ (by assumption)))⟩
          case round =>
            obtain ⟨t, B, rfl, rfl, ht1, ht2, hN, hxj⟩ := hrel
            by_cases htl : t < m + 1
            · obtain ⟨-, -, v2, f3, hpv2⟩ := HCL.out t htl
              obtain ⟨qa, qc, rfl, -, -, q3⟩ := hpv2
              obtain ⟨L, hL⟩ : ∃ L, (partsOf ((builtL p).getD t 0)).length = L := ⟨_, rfl⟩
              rw [hL] at f3 q3
              have hLB : L ≤ 9223372036854775807 := by
                have h24 := HBF.out.good HP2.out
                have := h24.few _ (HBF.out.mem _ (getD_mem (xs := builtL p) 0 (show t < (builtL p).length by rw [HM.out]; exact htl))).1
                omega
              have e1 := (hxj.cells _ _ hb).trans f3
              have HL := hid hL; have F3 := hid f3; have Q3 := hid q3
              clear f3 hL q3
              go_wp2_with fail
              go_loopw [10, 8] (fun i bb wi => ∃ (s : Nat) (B : Bool), i = .int .i64 s ∧ bb = .bool B ∧ s ≤ L ∧ NdI p N B0 k t s B ∧ Ext w2 wi) (fun i _ _ => L - (intOf i).toNat)
              case atStart => exact ⟨0, B, rfl, rfl, Nat.zero_le _, hN.into, (by repeat (first | exact Ext.refl _ | assumption | refine Ext.drew ?_ | refine Ext.drewN ?_ _ | refine Ext.alloc ?_ _ | refine Ext.trans ?_ (by assumption)))⟩
              case round =>
                obtain ⟨s, B, rfl, rfl, hs, hI, hxi⟩ := hrel
                have a1 := (hxi.cells _ _ hb).trans F3.out
                have a2 := (hxi.cells _ _ hb).trans C1W.out
                by_cases hsl : s < L
                · obtain ⟨b2, off2, rfl, hb2, hc2⟩ := Q3.out (by omega)
                  have a3 := (hxi.cells _ _ hb2).trans (hc2 s hsl).1
                  obtain ⟨q1, eq1⟩ : ∃ q1, ((partsOf ((builtL p).getD t 0)).getD s (0, 0)).1 = q1 := ⟨_, rfl⟩
                  rw [eq1] at a3
                  have EQ1 := hid eq1
                  clear hc2 eq1
                  cases B with
                  | true =>
                    clear hI
                    go_wp2_with fail
                    go_quiet (fail)
                    go_wp2_with fail
                    go_roundw
                    case rel => exact ⟨s + 1, true, by go_num, rfl, by omega, NdI.yes, (by repeat (first | exact Ext.refl _ | assumption | refine Ext.drew ?_ | refine Ext.drewN ?_ _ | refine Ext.alloc ?_ _ | refine Ext.trans ?_ (by assumption)))⟩
                    case measure => simp [intOf]; omega
                  | false =>
                    obtain ⟨B2, eB2⟩ : ∃ B2, (q1 == (N : Int)) = B2 := ⟨_, rfl⟩
                    have HST := hid (hI.step (by rw [HL.out]; exact hsl) (B := B2) (by rw [EQ1.out]; exact eB2))
                    clear hI
                    go_wp2_with fail
                    go_quiet (fail)
                    go_wp2_with fail
                    go_roundw
                    case rel => exact ⟨s + 1, B2, by go_num, rfl, by omega, HST.out, (by repeat (first | exact Ext.refl _ | assumption | refine Ext.drew ?_ | refine Ext.drewN ?_ _ | refine Ext.alloc ?_ _ | refine Ext.trans ?_ (by assumption)))⟩
                    case measure => simp [intOf]; omega
                · obtain rfl : s = L := by omega
                  have HOUT : Hid (NdB p N B0 k (t + 1) B) := hid (by rw [← HL.out] at hI; exact hI.out)
                  clear hI
                  go_wp2_with fail
                  go_roundw
                  case rel => exact ⟨t + 1, B, by go_num, rfl, by omega, by omega, HOUT.out, (by repeat (first | exact Ext.refl _ | assumption | refine Ext.drew ?_ | refine Ext.drewN ?_ _ | refine Ext.alloc ?_ _ | refine Ext.trans ?_ (by assumption)))⟩
                  case measure => simp [intOf]; omega
            · obtain rfl : t = m + 1 := by omega
              obtain rfl : B = true := hN.need HM.out HB0.out HNE.out
              go_wp2_with fail
              go_roundw
              case rel => (repeat apply Exists.intro); refine ⟨⟨k + 1, by go_num, by omega, (by repeat (first | exact Ext.refl _ | assumption | refine Ext.drew ?_ | refine Ext.drewN ?_ _ | refine Ext.alloc ?_ _ | refine Ext.trans ?_ (by assumption)))⟩, ?_⟩; rfl
              case measure => simp [intOf]; omega
        · obtain rfl : k = m + 1 := by omega
          obtain ⟨g1, -⟩ := HCL.out m (by omega)
          rw [HLA.out] at g1
          have d1 := (hx.cells _ _ hb).trans g1
          clear g1
          go_wp2_with fail
          go_ret
          exact ⟨rfl, (by repeat (first | exact Ext.refl _ | assumption | refine Ext.drew ?_ | refine Ext.drewN ?_ _ | refine Ext.alloc ?_ _ | refine Ext.trans ?_ (by assumption)))⟩
theorem contract (H : Type) (enc : TypeId × Value → H) (W : World) (base : Nat) (args : Array Value) (ds gs : List (DataW H)) (before : List MemPlace)
    (hval : ∀ (j : Nat) t v, Tryd.f3.params[j]? = some t → args[j]? = some v → Value.okWide Tryd.prog W .any base t v)
    (hW : DataW.Whole enc Tryd.prog Tryd.f3.params.toList Rows.primeBuildsSpec.vars false W args.toList ds gs before) (hL : laidMetH Tryd.prog Rows.primeBuildsRow.laid W) :
    Calls Tryd.prog 3 args W fun e W' => ∃ v, e = .returned v ∧ Rows.primeBuildsSpec.post enc Tryd.prog Tryd.f3 false true false false W args v W' := by
  have hW' := hW
  obtain ⟨p, q, hA0, hV, rfl, _, _⟩ := hW
  have hA : DataW.TrodAll enc Tryd.prog W 0 (fun _ => true) true Tryd.f3.params.toList args.toList ds p := hA0
  rw [Tryd.params3] at hA hval
  obtain ⟨v0, vs0, d0, ds0, p0, q0, hargs, rfl, rfl, h0, r0⟩ := trodAll_cons hA
  obtain ⟨rfl, rfl, rfl⟩ := trodAll_nil r0
  obtain rfl : args = #[v0] := by cases args; simp_all
  obtain ⟨rfl, rfl⟩ := trodVars_none hV
  obtain ⟨a0, rfl, rfl, rfl, w0⟩ := open_int Tryd.underlying22 (hval 0 22 v0 rfl rfl) h0
  refine (walk a0 W w0 (tab_of hL)).mono fun e W' ⟨he, hg⟩ => ⟨_, he, ?_⟩
  exact law_post (by kernel_rfl) (by kernel_rfl) rfl Tryd.underlying4 rfl rfl hW' hg
theorem laid_met (os : Os) : laidMet Tryd.prog Rows.primeBuildsRow.laid ((laidWorld os).forCall (fun _ _ => 0) ⟨#[], #[.int .u64 0], []⟩).memory :=
  laidMet_of_run' 70 (by kernel_rfl) (by kernel_rfl)
theorem reads (os : Os) {H : Type} (enc : TypeId × Value → H) : ∃ places, DataW.whole enc Tryd.prog ((laidWorld os).forCall (fun _ _ => 0) ⟨#[], #[.int .u64 0], []⟩).memory Tryd.f3.params.toList Rows.primeBuildsSpec.vars false #[(Value.int .u64 0)].toList 8 = some ([.lit (.int .u64 0)], [], places) :=
  ⟨[], by kernel_rfl⟩
set_option maxRecDepth 100000 in
theorem lifted (os : Os) (started : os.Started) (H : Type) (enc : TypeId × Value → H) (F : Stop.Interp) :
    ReturnsInHanded {} Tryd.checked os 3 .any ((OpenSpec.ofChange Rows.primeBuildsSpec).preRow enc Tryd.prog Tryd.f3 Rows.primeBuildsRow.domain false Rows.primeBuildsRow.laid) (((OpenSpec.ofChange Rows.primeBuildsSpec).at F).post enc Tryd.prog Tryd.f3 false true false false) := by
  obtain ⟨places, hx⟩ := reads os enc
  refine returnsInHanded_of_row (C := Tryd.checked) (s := OpenSpec.ofChange Rows.primeBuildsSpec) own started (by kernel_rfl) Tryd.func3
    (witness_row_at (enc := enc) (C := Tryd.checked) false (laidWorld os) #[.int .u64 0] rfl (by kernel_rfl) (by kernel_rfl) (by kernel_rfl)
      (OpenSpec.preRow_of_cond 8 hx (by kernel_rfl) (fun k hk => by cases hk) (by kernel_rfl) (laid_met os))) ?_
  intro W base args ds gs before hval hW _ _ _ hL _ _
  exact contract H enc W base args ds gs before hval hW hL
theorem said : Rows.PrimeBuildsSaid :=
  OpenClaim.holds_of_cond 3 Tryd.f3 rfl rfl rfl rfl rfl rfl rfl ⟨rfl, rfl, rfl, rfl, rfl⟩ rfl rfl rfl rfl rfl (by kernel_rfl) Tryd.func3 (by kernel_rfl)
    (of_decide_eq_true (by kernel_rfl)) (by unfold Func.isWrapper; first | (rw [if_pos (by decide +kernel)]; kernel_rfl) | (rw [if_neg (by decide +kernel)]; exact ⟨rfl, rfl⟩))
    (fun os started H enc _ F => by rw [OpenClaim.pre_eq_preRow]; exact lifted os started H enc F)
theorem plain (f : FuncId) (fn : Func) (hf : Tryd.pinned.checked.prog.funcNamed "affidavit/affidavitlaw02.PrimeBuilds" = some f) (hfn : Tryd.pinned.checked.prog.funcs[f]? = some fn) :
    false = Tryd.pinned.checked.prog.looks [] ∧ ∀ (j : Nat) t, fn.params[j]? = some t → Tryd.pinned.checked.prog.wantsStandIn t = false := by
  obtain rfl : f = 3 := Option.some.inj ((show Tryd.prog.funcNamed "affidavit/affidavitlaw02.PrimeBuilds" = some 3 by kernel_rfl).symm.trans hf) |>.symm
  obtain rfl : fn = Tryd.f3 := (Option.some.inj (Tryd.func3.symm.trans hfn)).symm
  refine ⟨by kernel_rfl, fun j t ht => ?_⟩
  rw [Tryd.params3] at ht
  have hm : t ∈ ([22] : List Nat) := by simpa using Array.mem_of_getElem? ht
  have hall : ∀ t ∈ ([22] : List Nat), Tryd.prog.wantsStandIn t = false := List.all_eq_true.1 (show ([22] : List Nat).all (fun t => Tryd.prog.wantsStandIn t == false) = true by kernel_rfl) |> fun h t ht => by simpa using h t ht
  exact hall t hm

/-- the statement -/
theorem card : Rows.PrimeBuildsCardSaid :=
  Claim7.holds_tied_plain_at .later [] _ _ _ _ said (fun _ h => by cases h) (by kernel_rfl) (fun _ h => by cases h) primeBuilds_row_tie rfl ⟨rfl, rfl⟩ (by kernel_rfl) rfl plain (by kernel_rfl)
end Go.Proofs.YthomeenmcajmdaaDoor.primeBuilds
