/- PrimeShown: whatever the list and the number, the law answers true, and nothing that was there has turned. No condition. -/
import Derived.Test.YtncidpckokclbaaDoorAwake02
import Derived.Test.YtncidpckokclbaaDoorRef01
import Derived.Test.YtncidpckokclbaaDoorPrattList
import Derived.Test.YtncidpckokclbaaDoorDoor
namespace Go.Proofs.YtncidpckokclbaaDoor.primeShown
open Go.ChangeShapes Go.WideShapes Go.ChangeAt Go.RowKit Go.Maps

set_option maxRecDepth 100000 in
set_option maxHeartbeats 4000000 in
theorem walk (v : Value) (l : List Prf) (a : Int) (w : World) (hv : Proofs w v l) (hl : ∀ f ∈ l, f.Ok) (ha : (Lit.int .u64 a).wf = true) (hT : Tab w) :
    Calls Tryd.prog 6 #[v, .int .u64 a] w (Ret (.bool true) w) := by
  have Hv := hid hv
  obtain ⟨p, cap, rfl, hc1, hc2, hc⟩ := hv
  have ha2 := u64_wf ha
  have Hl := hid hl; have HT := hid hT; have Hc := hid hc
  clear hl hT hc ha
  obtain ⟨x, ex⟩ : ∃ x, shortB l = x := ⟨_, rfl⟩
  have EX := hid ex; clear ex
  cases x with
  | false =>
    go_enter Tryd.func6, Tryd.ntmps6
    go_wp2_with fail
    refine (awake02 _ HT.out).mono ?_; rintro _ w1 ⟨rfl, x1⟩
    go_wp2_with fail
    refine (Short_any _ l _ (Hv.out.ext x1)).mono ?_; rintro _ w2 ⟨rfl, x2⟩
    rw [EX.out]
    go_wp2_with fail
    go_ret
    exact ⟨rfl, (by repeat (first | exact Ext.refl _ | assumption | refine Ext.drew ?_ | refine Ext.drewN ?_ _ | refine Ext.alloc ?_ _ | refine Ext.trans ?_ (by assumption)))⟩
  | true =>
    obtain ⟨y, ey⟩ : ∃ y, decide (firstD l = l.length) = y := ⟨_, rfl⟩
    have EY := hid ey; clear ey
    cases y with
    | false =>
      go_enter Tryd.func6, Tryd.ntmps6
      go_wp2_with fail
      refine (awake02 _ HT.out).mono ?_; rintro _ w1 ⟨rfl, x1⟩
      go_wp2_with fail
      refine (Short_any _ l _ (Hv.out.ext x1)).mono ?_; rintro _ w2 ⟨rfl, x2⟩
      rw [EX.out]
      have hw2 : Ext w w2 := (by repeat (first | exact Ext.refl _ | assumption | refine Ext.drew ?_ | refine Ext.drewN ?_ _ | refine Ext.alloc ?_ _ | refine Ext.trans ?_ (by assumption)))
      go_wp2_with fail
      refine (Check_any _ l _ (Hv.out.ext hw2) Hl.out).mono ?_; rintro _ w3 ⟨rfl, x3⟩
      rw [EY.out]
      go_wp2_with fail
      go_ret
      exact ⟨rfl, (by repeat (first | exact Ext.refl _ | assumption | refine Ext.drew ?_ | refine Ext.drewN ?_ _ | refine Ext.alloc ?_ _ | refine Ext.trans ?_ (by assumption)))⟩
    | true =>
      have hf : firstD l = l.length := by simpa using EY.out
      have HF := hid hf
      clear hf
      go_enter Tryd.func6, Tryd.ntmps6
      go_wp2_with fail
      refine (awake02 _ HT.out).mono ?_; rintro _ w1 ⟨rfl, x1⟩
      go_wp2_with fail
      refine (Short_any _ l _ (Hv.out.ext x1)).mono ?_; rintro _ w2 ⟨rfl, x2⟩
      rw [EX.out]
      have hw2 : Ext w w2 := (by repeat (first | exact Ext.refl _ | assumption | refine Ext.drew ?_ | refine Ext.drewN ?_ _ | refine Ext.alloc ?_ _ | refine Ext.trans ?_ (by assumption)))
      go_wp2_with fail
      refine (Check_any _ l _ (Hv.out.ext hw2) Hl.out).mono ?_; rintro _ w3 ⟨rfl, x3⟩
      rw [EY.out]
      have hw3 : Ext w w3 := (by repeat (first | exact Ext.refl _ | assumption | refine Ext.drew ?_ | refine Ext.drewN ?_ _ | refine Ext.alloc ?_ _ | refine Ext.trans ?_ (by assumption)))
      go_wp2_with fail
      go_loopw [5] (fun i wr => ∃ k : Nat, i = .int .i64 k ∧ k ≤ l.length ∧ Ext w wr) (fun i _ => l.length - (intOf i).toNat)
      case atStart => exact ⟨0, rfl, by omega, (by repeat (first | exact Ext.refl _ | assumption | refine Ext.drew ?_ | refine Ext.drewN ?_ _ | refine Ext.alloc ?_ _ | refine Ext.trans ?_ (by assumption)))⟩
      case round =>
        obtain ⟨k, rfl, hk, hw⟩ := hrel
        by_cases hlt : k < l.length
        · obtain ⟨b, off, rfl, hb, hcell⟩ := Hc.out (by omega)
          have g1 := (hw.cells _ _ hb).trans (hcell k hlt).1
          obtain ⟨h2, hroot⟩ := shown_root Hl.out (firstD_all HF.out) (k + 1) k (by omega) hlt
          have hfo := (Hl.out _ (getD_mem .zero hlt))
          have hok := firstD_all HF.out k hlt
          have hsh : showsB (l.take (k + 1)) (l.getD k .zero).num = true := by
            have e1 := firstD_take HF.out (m := k + 1) (by omega)
            have e2 : (l.take (k + 1)).length = k + 1 := by simp; omega
            simp only [showsB, e1, e2, decide_true, Bool.true_and, knownB_snoc l k hlt, Bool.true_or]
          have hrt : rightB (l.getD k .zero).num = true ∧ (l.getD k .zero).num ≤ 9223372036854775807 := by
            simp only [okAt, Bool.and_eq_true, provesB] at hok
            have := hasB_true hok.2.1.1.1.1.2
            exact ⟨this.1, (rightB_true this.1).2⟩
          have hct := (Hv.out.ext hw).take (k + 1) (by omega)
          generalize l.getD k .zero = f at *
          have hno := hfo.1
          have hn1 := hrt.2
          have hpr := hroot.prm
          obtain ⟨n, r, ps⟩ := f
          simp only at g1 h2 hroot hsh hrt hn1 hpr
          clear hcell hok hfo hno
          obtain ⟨z, ez⟩ : ∃ z, a % (n - 1) = z := ⟨_, rfl⟩
          have hz := mod_range (p := n - 1) a (by omega)
          rw [ez] at hz
          obtain ⟨u, eu⟩ : ∃ u, z + 1 = u := ⟨_, rfl⟩
          have hu0 : 0 < u := by omega
          have hu1 : u < n := by omega
          have hun := root_unit hroot h2 hu0 hu1
          have hfe := root_fermat hroot h2 hu0 hu1
          have hgc := unitB_gcd hun
          have hmi := minv_range n u (by omega)
          obtain ⟨q, eq⟩ : ∃ q, minv n u = q := ⟨_, rfl⟩
          have HI := hid (fun w0 => inv_as n u q w0 hrt.1 (by omega) hu1 hun eq)
          have HPw := hid (fun w0 => pow_as n u (n - 1) 1 w0 hrt.1 (by omega) hu1 (by omega) (by omega) hfe)
          have HGc := hid (fun w0 => rGcd_as n u 1 w0 (by omega) (by omega) (by omega) (by omega) hgc)
          have HSh := hid (fun w0 (h0 : Ext wr w0) => Shows_any _ (l.take (k + 1)) n w0 (hct.ext h0) (fun f hf => Hl.out f (List.mem_of_mem_take hf)))
          rw [hsh] at HSh
          have hne : ¬ n - 1 = 0 := by omega
          have HIs := hid (root_isP (by omega) hpr)
          clear hun hfe hgc hsh hroot hpr hrt hmi eq hct
          by_cases hsm : n < 1073741824
          · have bs : decide (n < 1073741824) = true := by simpa using hsm
            have hib := (isB_iff n).2 HIs.out
            go_wp2_with fail
            refine (Is_any n _ (by omega) (by omega)).mono ?_; rintro _ w4 ⟨rfl, rfl⟩
            rw [hib]
            go_wp2_with fail
            refine (HI.out _).mono ?_; rintro _ w5 ⟨rfl, x5⟩
            go_wp2_with fail
            refine (HPw.out _).mono ?_; rintro _ w6 ⟨rfl, x6⟩
            go_wp2_with fail
            refine (HGc.out _).mono ?_; rintro _ w7 ⟨rfl, x7⟩
            go_wp2_with fail
            refine (HSh.out _ ((x5.trans x6).trans x7)).mono ?_; rintro _ w8 ⟨rfl, x8⟩
            go_wp2_with fail
            go_roundw
            case rel => exact ⟨k + 1, by go_num, by omega, (((hw.trans x5).trans x6).trans x7).trans x8⟩
            case measure => simp [intOf]; omega
          · have bs : decide (n < 1073741824) = false := by simpa using hsm
            go_wp2_with fail
            refine (HI.out _).mono ?_; rintro _ w5 ⟨rfl, x5⟩
            go_wp2_with fail
            refine (HPw.out _).mono ?_; rintro _ w6 ⟨rfl, x6⟩
            go_wp2_with fail
            refine (HGc.out _).mono ?_; rintro _ w7 ⟨rfl, x7⟩
            go_wp2_with fail
            refine (HSh.out _ ((x5.trans x6).trans x7)).mono ?_; rintro _ w8 ⟨rfl, x8⟩
            go_wp2_with fail
            go_roundw
            case rel => exact ⟨k + 1, by go_num, by omega, (((hw.trans x5).trans x6).trans x7).trans x8⟩
            case measure => simp [intOf]; omega
        · go_wp2_with fail
          go_ret
          exact ⟨rfl, (by repeat (first | exact Ext.refl _ | assumption | refine Ext.drew ?_ | refine Ext.drewN ?_ _ | refine Ext.alloc ?_ _ | refine Ext.trans ?_ (by assumption)))⟩
theorem contract (H : Type) (enc : TypeId × Value → H) (W : World) (base : Nat) (args : Array Value) (ds gs : List (DataW H)) (before : List MemPlace)
    (hval : ∀ (j : Nat) t v, Tryd.f6.params[j]? = some t → args[j]? = some v → Value.okWide Tryd.prog W .any base t v)
    (hW : DataW.Whole enc Tryd.prog Tryd.f6.params.toList Rows.primeShownSpec.vars false W args.toList ds gs before) (hL : laidMetH Tryd.prog Rows.primeShownRow.laid W) :
    Calls Tryd.prog 6 args W fun e W' => ∃ v, e = .returned v ∧ Rows.primeShownSpec.post enc Tryd.prog Tryd.f6 false true false false W args v W' := by
  have hW' := hW
  obtain ⟨p, q, hA0, hV, rfl, _, _⟩ := hW
  have hA : DataW.TrodAll enc Tryd.prog W 0 (fun _ => true) true Tryd.f6.params.toList args.toList ds p := hA0
  rw [Tryd.params6] at hA hval
  obtain ⟨v0, vs0, d0, ds0, p0, q0, hargs, rfl, rfl, h0, r0⟩ := trodAll_cons hA
  obtain ⟨v1, vs1, d1, ds1, p1, q1, rfl, rfl, rfl, h1, r1⟩ := trodAll_cons r0
  obtain ⟨rfl, rfl, rfl⟩ := trodAll_nil r1
  obtain rfl : args = #[v0, v1] := by cases args; simp_all
  obtain ⟨rfl, rfl⟩ := trodVars_none hV
  obtain ⟨xs0, i0, w0⟩ := open_Proofs (hval 0 22 v0 rfl rfl) h0
  obtain ⟨a1, rfl, rfl, rfl, w1⟩ := open_int Tryd.underlying23 (hval 1 23 v1 rfl rfl) h1
  refine (walk v0 xs0 a1 W i0 w0 w1 (tab_of hL)).mono fun e W' ⟨he, hg⟩ => ⟨_, he, ?_⟩
  exact law_post (by kernel_rfl) (by kernel_rfl) rfl Tryd.underlying4 rfl rfl hW' hg
theorem laid_met (os : Os) : laidMet Tryd.prog Rows.primeShownRow.laid ((laidWorld os).forCall (fun _ _ => 0) ⟨#[], #[.slice none 0 0, .int .u64 0], []⟩).memory :=
  laidMet_of_run' 70 (by kernel_rfl) (by kernel_rfl)
theorem reads (os : Os) {H : Type} (enc : TypeId × Value → H) : ∃ places, DataW.whole enc Tryd.prog ((laidWorld os).forCall (fun _ _ => 0) ⟨#[], #[.slice none 0 0, .int .u64 0], []⟩).memory Tryd.f6.params.toList Rows.primeShownSpec.vars false #[(Value.slice none 0 0), (Value.int .u64 0)].toList 8 = some ([.nil, .lit (.int .u64 0)], [], places) :=
  ⟨[], by kernel_rfl⟩
set_option maxRecDepth 100000 in
theorem lifted (os : Os) (started : os.Started) (H : Type) (enc : TypeId × Value → H) (F : Stop.Interp) :
    ReturnsInHanded {} Tryd.checked os 6 .any ((OpenSpec.ofChange Rows.primeShownSpec).preRow enc Tryd.prog Tryd.f6 Rows.primeShownRow.domain false Rows.primeShownRow.laid) (((OpenSpec.ofChange Rows.primeShownSpec).at F).post enc Tryd.prog Tryd.f6 false true false false) := by
  obtain ⟨places, hx⟩ := reads os enc
  refine returnsInHanded_of_row (C := Tryd.checked) (s := OpenSpec.ofChange Rows.primeShownSpec) own started (by kernel_rfl) Tryd.func6
    (witness_row_at (enc := enc) (C := Tryd.checked) false (laidWorld os) #[.slice none 0 0, .int .u64 0] rfl (by kernel_rfl) (by kernel_rfl) (by kernel_rfl)
      (OpenSpec.preRow_of_cond 8 hx (by kernel_rfl) (fun k hk => by cases hk) (by kernel_rfl) (laid_met os))) ?_
  intro W base args ds gs before hval hW _ _ _ hL _ _
  exact contract H enc W base args ds gs before hval hW hL
theorem said : Rows.PrimeShownSaid :=
  OpenClaim.holds_of_cond 6 Tryd.f6 rfl rfl rfl rfl rfl rfl rfl ⟨rfl, rfl, rfl, rfl, rfl⟩ rfl rfl rfl rfl rfl (by kernel_rfl) Tryd.func6 (by kernel_rfl)
    (of_decide_eq_true (by kernel_rfl)) (by unfold Func.isWrapper; first | (rw [if_pos (by decide +kernel)]; kernel_rfl) | (rw [if_neg (by decide +kernel)]; exact ⟨rfl, rfl⟩))
    (fun os started H enc _ F => by rw [OpenClaim.pre_eq_preRow]; exact lifted os started H enc F)
theorem plain (f : FuncId) (fn : Func) (hf : Tryd.pinned.checked.prog.funcNamed "affidavit/affidavitlaw02.PrimeShown" = some f) (hfn : Tryd.pinned.checked.prog.funcs[f]? = some fn) :
    false = Tryd.pinned.checked.prog.looks [] ∧ ∀ (j : Nat) t, fn.params[j]? = some t → Tryd.pinned.checked.prog.wantsStandIn t = false := by
  obtain rfl : f = 6 := Option.some.inj ((show Tryd.prog.funcNamed "affidavit/affidavitlaw02.PrimeShown" = some 6 by kernel_rfl).symm.trans hf) |>.symm
  obtain rfl : fn = Tryd.f6 := (Option.some.inj (Tryd.func6.symm.trans hfn)).symm
  refine ⟨by kernel_rfl, fun j t ht => ?_⟩
  rw [Tryd.params6] at ht
  have hm : t ∈ ([22, 23] : List Nat) := by simpa using Array.mem_of_getElem? ht
  have hall : ∀ t ∈ ([22, 23] : List Nat), Tryd.prog.wantsStandIn t = false := List.all_eq_true.1 (show ([22, 23] : List Nat).all (fun t => Tryd.prog.wantsStandIn t == false) = true by kernel_rfl) |> fun h t ht => by simpa using h t ht
  exact hall t hm

/-- the statement -/
theorem card : Rows.PrimeShownCardSaid :=
  Claim7.holds_tied_plain_at .later [] _ _ _ _ said (fun _ h => by cases h) (by kernel_rfl) (fun _ h => by cases h) primeShown_row_tie rfl ⟨rfl, rfl⟩ (by kernel_rfl) rfl plain (by kernel_rfl)
end Go.Proofs.YtncidpckokclbaaDoor.primeShown
