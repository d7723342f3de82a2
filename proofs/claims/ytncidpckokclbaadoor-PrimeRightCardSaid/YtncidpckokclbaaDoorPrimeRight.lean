/- PrimeRight: whatever the list and the number, the law answers true, and nothing that was there has turned. No condition. -/
import Derived.Test.YtncidpckokclbaaDoorAwake02
import Derived.Test.YtncidpckokclbaaDoorRefProof
import Derived.Test.YtncidpckokclbaaDoorDoor
namespace Go.Proofs.YtncidpckokclbaaDoor.primeRight
open Go.ChangeShapes Go.WideShapes Go.ChangeAt Go.RowKit Go.Maps

theorem last_two {l : List Prf} {m : Nat} (h : ∀ k, k < m → okAt l k = true) : ∀ k, k ≤ m → 2 ≤ lastD l k
  | 0, _ => by simp [lastD]
  | k + 1, hk => by
    have h1 := last_two h k (by omega)
    have h2 := h k (by omega)
    simp only [okAt, Bool.and_eq_true, decide_eq_true_eq] at h2
    simp only [lastD]
    omega
theorem refOk_eq {l : List Prf} {i : Nat} (h : ∀ j, j < i → okAt l j = true) : refOk l i = okAt l i := by
  have h200 : i ≤ 200 := by
    apply Classical.byContradiction
    intro hh
    have := h 200 (by omega)
    simp [okAt] at this
  have hprev : ((i = 0 ∨ (l.getD (i - 1) .zero).num < (l.getD i .zero).num) ∧ 2 < (l.getD i .zero).num) ↔ lastD l i < (l.getD i .zero).num := by
    cases i with
    | zero => simp [lastD]
    | succ j =>
      have h1 := last_two h j (by omega)
      have h2 := h j (by omega)
      simp only [okAt, Bool.and_eq_true, decide_eq_true_eq] at h2
      simp only [lastD, Nat.add_sub_cancel]
      omega
  unfold refOk okAt
  generalize l.getD i .zero = f at *
  rw [Bool.eq_iff_iff]
  simp only [provesB, rootB, Bool.and_eq_true, Bool.or_eq_true, decide_eq_true_eq, List.all_eq_true]
  constructor
  · rintro ⟨⟨⟨⟨⟨⟨⟨⟨⟨⟨a1, a2⟩, a3⟩, a4⟩, a5⟩, a6⟩, a7⟩, a8⟩, a9⟩, a10⟩, a11⟩
    have hh : hasB f.num [f.root] = true := hasB_iff.2 ⟨⟨by omega, a4⟩, a6⟩
    have hpw : ∀ t, powv f.num f.root t = mpow f.num f.root t := fun t => by simp [powv, hh]
    exact ⟨⟨by omega, hprev.1 ⟨a2, a3⟩⟩, ⟨⟨⟨⟨a5, hh⟩, a8⟩, a9⟩, fun q hq => (a11 q hq).1⟩, by rw [hpw]; exact a10, fun q hq => by rw [hpw]; exact (a11 q hq).2⟩
  · rintro ⟨⟨b1, b2⟩, ⟨⟨⟨⟨b3, hh⟩, b5⟩, b6⟩, b7⟩, b8, b9⟩
    have hpw : ∀ t, powv f.num f.root t = mpow f.num f.root t := fun t => by simp [powv, hh]
    have hb := hasB_iff.1 hh
    have hp := hprev.2 b2
    have hne : f.parts.length ≠ 0 := fun e => by
      have e2 := List.eq_nil_of_length_eq_zero e
      rw [e2] at b6
      simp [upB] at b6
      omega
    exact ⟨⟨⟨⟨⟨⟨⟨⟨⟨⟨by omega, hp.1⟩, hp.2⟩, hb.1.2⟩, b3⟩, hb.2⟩, hne⟩, b5⟩, b6⟩, by rw [← hpw]; exact b8⟩, fun q hq => ⟨b7 q hq, by rw [← hpw]; exact b9 q hq⟩⟩

set_option maxHeartbeats 1000000 in
theorem rFirst (v : Value) (l : List Prf) (w : World) (hv : Proofs w v l) (hl : ∀ f ∈ l, f.Ok) :
    Calls Tryd.prog 11 #[v] w (Ret (.int .i64 (firstD l)) w) := by
  have Hv := hid hv
  obtain ⟨a, cap, rfl, hc1, hc2, hc⟩ := hv
  have Hl := hid hl
  clear hc hl
  go_enter Tryd.func11, Tryd.ntmps11
  go_wp2_with fail
  go_loopw [3] (fun i wr => ∃ k : Nat, i = .int .i64 k ∧ k ≤ l.length ∧ (∀ j, j < k → okAt l j = true) ∧ Ext w wr) (fun i _ => l.length - (intOf i).toNat)
  case atStart => exact ⟨0, rfl, by omega, by simp, (by repeat (first | exact Ext.refl _ | assumption | refine Ext.drew ?_ | refine Ext.drewN ?_ _ | refine Ext.alloc ?_ _ | refine Ext.trans ?_ (by assumption)))⟩
  case round =>
    obtain ⟨k, rfl, hk, hall, hw⟩ := hrel
    by_cases hlt : k < l.length
    · have he := refOk_eq hall
      obtain ⟨x, ex⟩ : ∃ x, okAt l k = x := ⟨_, rfl⟩
      rw [ex] at he
      have HE := hid he; have EX := hid ex; have HA := hid hall
      clear he ex hall
      cases x with
      | false =>
        have hR : ((firstD l : Nat) : Int) = k := by rw [firstD_eq hk HA.out (fun _ => EX.out)]
        have HR := hid hR
        clear hR
        go_wp2_with fail
        refine (rProof _ l k _ (Hv.out.ext hw) Hl.out hlt).mono ?_; rintro _ w2 ⟨rfl, x2⟩
        rw [HE.out]
        go_wp2_with fail
        go_ret
        exact ⟨ret_int HR.out.symm, (by repeat (first | exact Ext.refl _ | assumption | refine Ext.drew ?_ | refine Ext.drewN ?_ _ | refine Ext.alloc ?_ _ | refine Ext.trans ?_ (by assumption)))⟩
      | true =>
        go_wp2_with fail
        refine (rProof _ l k _ (Hv.out.ext hw) Hl.out hlt).mono ?_; rintro _ w2 ⟨rfl, x2⟩
        rw [HE.out]
        go_wp2_with fail
        go_roundw
        case rel => exact ⟨k + 1, by go_num, by omega, fun j hj => by
          by_cases e : j = k
          · rw [e]; exact EX.out
          · exact HA.out j (by omega), (by repeat (first | exact Ext.refl _ | assumption | refine Ext.drew ?_ | refine Ext.drewN ?_ _ | refine Ext.alloc ?_ _ | refine Ext.trans ?_ (by assumption)))⟩
        case measure => simp [intOf]; omega
    · have hR : ((firstD l : Nat) : Int) = l.length := by rw [firstD_eq (Nat.le_refl _) (fun j hj => hall j (by omega)) (fun h => by omega)]
      have HR := hid hR
      clear hR
      go_wp2_with fail
      go_ret
      exact ⟨ret_int HR.out.symm, (by repeat (first | exact Ext.refl _ | assumption | refine Ext.drew ?_ | refine Ext.drewN ?_ _ | refine Ext.alloc ?_ _ | refine Ext.trans ?_ (by assumption)))⟩

set_option maxHeartbeats 400000 in
theorem rShows (v : Value) (l : List Prf) (p : Int) (w : World) (hv : Proofs w v l) (hl : ∀ f ∈ l, f.Ok) :
    Calls Tryd.prog 15 #[v, .int .u64 p] w (Ret (.bool (showsB l p)) w) := by
  have Hv := hid hv
  obtain ⟨a, cap, rfl, hc1, hc2, hc⟩ := hv
  have Hl := hid hl
  clear hc hl
  by_cases hf : firstD l = l.length
  · have b1 : ((firstD l : Int) == (l.length : Int)) = true := beq_iff_eq.2 (by omega)
    have HF := hid hf
    clear hf
    go_enter Tryd.func15, Tryd.ntmps15
    go_wp2_with fail
    refine (rFirst _ l _ Hv.out Hl.out).mono ?_; rintro _ w1 ⟨rfl, x1⟩
    go_wp2_with fail
    refine (rKnown _ l p _ (Hv.out.ext x1)).mono ?_; rintro _ w2 ⟨rfl, rfl⟩
    go_wp2_with fail
    go_ret
    exact ⟨ret_bool (by simp only [showsB, decide_eq_true HF.out, Bool.true_and]), (by repeat (first | exact Ext.refl _ | assumption | refine Ext.drew ?_ | refine Ext.drewN ?_ _ | refine Ext.alloc ?_ _ | refine Ext.trans ?_ (by assumption)))⟩
  · have b1 : ((firstD l : Int) == (l.length : Int)) = false := beq_eq_false_iff_ne.2 (by omega)
    have HF := hid hf
    clear hf
    go_enter Tryd.func15, Tryd.ntmps15
    go_wp2_with fail
    refine (rFirst _ l _ Hv.out Hl.out).mono ?_; rintro _ w1 ⟨rfl, x1⟩
    go_wp2_with fail
    go_ret
    exact ⟨ret_bool (by simp only [showsB, decide_eq_false HF.out, Bool.false_and]), (by repeat (first | exact Ext.refl _ | assumption | refine Ext.drew ?_ | refine Ext.drewN ?_ _ | refine Ext.alloc ?_ _ | refine Ext.trans ?_ (by assumption)))⟩

set_option maxRecDepth 100000 in
set_option maxHeartbeats 1000000 in
theorem walk (v : Value) (l : List Prf) (p : Int) (w : World) (hv : Proofs w v l) (hl : ∀ f ∈ l, f.Ok) (_ : (Lit.int .u64 p).wf = true) (hT : Tab w) :
    Calls Tryd.prog 3 #[v, .int .u64 p] w (Ret (.bool true) w) := by
  have Hv := hid hv
  obtain ⟨a, cap, rfl, hc1, hc2, hc⟩ := hv
  have Hl := hid hl; have HT := hid hT
  clear hl hT hc
  obtain ⟨x, ex⟩ : ∃ x, shortB l = x := ⟨_, rfl⟩
  have EX := hid ex; clear ex
  cases x with
  | false =>
    go_enter Tryd.func3, Tryd.ntmps3
    go_wp2_with fail
    refine (awake02 _ HT.out).mono ?_; rintro _ w1 ⟨rfl, x1⟩
    go_wp2_with fail
    refine (Short_any _ l _ (Hv.out.ext x1)).mono ?_; rintro _ w2 ⟨rfl, x2⟩
    rw [EX.out]
    go_wp2_with fail
    go_ret
    exact ⟨rfl, (by repeat (first | exact Ext.refl _ | assumption | refine Ext.drew ?_ | refine Ext.drewN ?_ _ | refine Ext.alloc ?_ _ | refine Ext.trans ?_ (by assumption)))⟩
  | true =>
    obtain ⟨fd, efd⟩ : ∃ fd, firstD l = fd := ⟨_, rfl⟩
    obtain ⟨sh, esh⟩ : ∃ sh, showsB l p = sh := ⟨_, rfl⟩
    obtain ⟨ck, eck⟩ : ∃ ck, decide (fd = l.length) = ck := ⟨_, rfl⟩
    have e2 : ((fd : Int) == (l.length : Int)) = ck := by rw [← eck, Bool.eq_iff_iff]; simp; omega
    have EFD := hid efd; have ESH := hid esh; have ECK := hid eck
    clear efd esh eck
    have e3 : ((fd : Int) == (fd : Int)) = true := by simp
    have e4 : (ck == ck) = true := by simp
    have e5 : (sh == sh) = true := by simp
    go_enter Tryd.func3, Tryd.ntmps3
    go_wp2_with fail
    refine (awake02 _ HT.out).mono ?_; rintro _ w1 ⟨rfl, x1⟩
    go_wp2_with fail
    refine (Short_any _ l _ (Hv.out.ext x1)).mono ?_; rintro _ w2 ⟨rfl, x2⟩
    rw [EX.out]
    have hw2 : Ext w w2 := (by repeat (first | exact Ext.refl _ | assumption | refine Ext.drew ?_ | refine Ext.drewN ?_ _ | refine Ext.alloc ?_ _ | refine Ext.trans ?_ (by assumption)))
    go_wp2_with fail
    refine (rFirst _ l _ (Hv.out.ext hw2) Hl.out).mono ?_; rintro _ w3 ⟨rfl, x3⟩
    rw [EFD.out]
    have hw3 : Ext w w3 := hw2.trans x3
    go_wp2_with fail
    refine (First_any _ l _ (Hv.out.ext hw3) Hl.out).mono ?_; rintro _ w4 ⟨rfl, x4⟩
    rw [EFD.out]
    have hw4 : Ext w w4 := hw3.trans x4
    go_wp2_with fail
    refine (Check_any _ l _ (Hv.out.ext hw4) Hl.out).mono ?_; rintro _ w5 ⟨rfl, x5⟩
    rw [EFD.out, ECK.out]
    have hw5 : Ext w w5 := hw4.trans x5
    go_wp2_with fail
    refine (Shows_any _ l p _ (Hv.out.ext hw5) Hl.out).mono ?_; rintro _ w6 ⟨rfl, x6⟩
    rw [ESH.out]
    have hw6 : Ext w w6 := hw5.trans x6
    go_wp2_with fail
    refine (rShows _ l p _ (Hv.out.ext hw6) Hl.out).mono ?_; rintro _ w7 ⟨rfl, x7⟩
    rw [ESH.out]
    go_wp2_with fail
    go_ret
    exact ⟨rfl, hw6.trans x7⟩
theorem contract (H : Type) (enc : TypeId × Value → H) (W : World) (base : Nat) (args : Array Value) (ds gs : List (DataW H)) (before : List MemPlace)
    (hval : ∀ (j : Nat) t v, Tryd.f3.params[j]? = some t → args[j]? = some v → Value.okWide Tryd.prog W .any base t v)
    (hW : DataW.Whole enc Tryd.prog Tryd.f3.params.toList Rows.primeRightSpec.vars false W args.toList ds gs before) (hL : laidMetH Tryd.prog Rows.primeRightRow.laid W) :
    Calls Tryd.prog 3 args W fun e W' => ∃ v, e = .returned v ∧ Rows.primeRightSpec.post enc Tryd.prog Tryd.f3 false true false false W args v W' := by
  have hW' := hW
  obtain ⟨p, q, hA0, hV, rfl, _, _⟩ := hW
  have hA : DataW.TrodAll enc Tryd.prog W 0 (fun _ => true) true Tryd.f3.params.toList args.toList ds p := hA0
  rw [Tryd.params3] at hA hval
  obtain ⟨v0, vs0, d0, ds0, p0, q0, hargs, rfl, rfl, h0, r0⟩ := trodAll_cons hA
  obtain ⟨v1, vs1, d1, ds1, p1, q1, rfl, rfl, rfl, h1, r1⟩ := trodAll_cons r0
  obtain ⟨rfl, rfl, rfl⟩ := trodAll_nil r1
  obtain rfl : args = #[v0, v1] := by cases args; simp_all
  obtain ⟨rfl, rfl⟩ := trodVars_none hV
  obtain ⟨xs0, i0, w0⟩ := open_Proofs (hval 0 22 v0 rfl rfl) h0
  obtain ⟨a1, rfl, rfl, rfl, w1⟩ := open_int Tryd.underlying23 (hval 1 23 v1 rfl rfl) h1
  refine (walk v0 xs0 a1 W i0 w0 w1 (tab_of hL)).mono fun e W' ⟨he, hg⟩ => ⟨_, he, ?_⟩
  exact law_post (by kernel_rfl) (by kernel_rfl) rfl Tryd.underlying4 rfl rfl hW' hg
theorem laid_met (os : Os) : laidMet Tryd.prog Rows.primeRightRow.laid ((laidWorld os).forCall (fun _ _ => 0) ⟨#[], #[.slice none 0 0, .int .u64 0], []⟩).memory :=
  laidMet_of_run' 70 (by kernel_rfl) (by kernel_rfl)
theorem reads (os : Os) {H : Type} (enc : TypeId × Value → H) : ∃ places, DataW.whole enc Tryd.prog ((laidWorld os).forCall (fun _ _ => 0) ⟨#[], #[.slice none 0 0, .int .u64 0], []⟩).memory Tryd.f3.params.toList Rows.primeRightSpec.vars false #[(Value.slice none 0 0), (Value.int .u64 0)].toList 8 = some ([.nil, .lit (.int .u64 0)], [], places) :=
  ⟨[], by kernel_rfl⟩
set_option maxRecDepth 100000 in
theorem lifted (os : Os) (started : os.Started) (H : Type) (enc : TypeId × Value → H) (F : Stop.Interp) :
    ReturnsInHanded {} Tryd.checked os 3 .any ((OpenSpec.ofChange Rows.primeRightSpec).preRow enc Tryd.prog Tryd.f3 Rows.primeRightRow.domain false Rows.primeRightRow.laid) (((OpenSpec.ofChange Rows.primeRightSpec).at F).post enc Tryd.prog Tryd.f3 false true false false) := by
  obtain ⟨places, hx⟩ := reads os enc
  refine returnsInHanded_of_row (C := Tryd.checked) (s := OpenSpec.ofChange Rows.primeRightSpec) own started (by kernel_rfl) Tryd.func3
    (witness_row_at (enc := enc) (C := Tryd.checked) false (laidWorld os) #[.slice none 0 0, .int .u64 0] rfl (by kernel_rfl) (by kernel_rfl) (by kernel_rfl)
      (OpenSpec.preRow_of_cond 8 hx (by kernel_rfl) (fun k hk => by cases hk) (by kernel_rfl) (laid_met os))) ?_
  intro W base args ds gs before hval hW _ _ _ hL _ _
  exact contract H enc W base args ds gs before hval hW hL
theorem said : Rows.PrimeRightSaid :=
  OpenClaim.holds_of_cond 3 Tryd.f3 rfl rfl rfl rfl rfl rfl rfl ⟨rfl, rfl, rfl, rfl, rfl⟩ rfl rfl rfl rfl rfl (by kernel_rfl) Tryd.func3 (by kernel_rfl)
    (of_decide_eq_true (by kernel_rfl)) (by unfold Func.isWrapper; first | (rw [if_pos (by decide +kernel)]; kernel_rfl) | (rw [if_neg (by decide +kernel)]; exact ⟨rfl, rfl⟩))
    (fun os started H enc _ F => by rw [OpenClaim.pre_eq_preRow]; exact lifted os started H enc F)
theorem plain (f : FuncId) (fn : Func) (hf : Tryd.pinned.checked.prog.funcNamed "affidavit/affidavitlaw02.PrimeRight" = some f) (hfn : Tryd.pinned.checked.prog.funcs[f]? = some fn) :
    false = Tryd.pinned.checked.prog.looks [] ∧ ∀ (j : Nat) t, fn.params[j]? = some t → Tryd.pinned.checked.prog.wantsStandIn t = false := by
  obtain rfl : f = 3 := Option.some.inj ((show Tryd.prog.funcNamed "affidavit/affidavitlaw02.PrimeRight" = some 3 by kernel_rfl).symm.trans hf) |>.symm
  obtain rfl : fn = Tryd.f3 := (Option.some.inj (Tryd.func3.symm.trans hfn)).symm
  refine ⟨by kernel_rfl, fun j t ht => ?_⟩
  rw [Tryd.params3] at ht
  have hm : t ∈ ([22, 23] : List Nat) := by simpa using Array.mem_of_getElem? ht
  have hall : ∀ t ∈ ([22, 23] : List Nat), Tryd.prog.wantsStandIn t = false := List.all_eq_true.1 (show ([22, 23] : List Nat).all (fun t => Tryd.prog.wantsStandIn t == false) = true by kernel_rfl) |> fun h t ht => by simpa using h t ht
  exact hall t hm

/-- the statement -/
theorem card : Rows.PrimeRightCardSaid :=
  Claim7.holds_tied_plain_at .later [] _ _ _ _ said (fun _ h => by cases h) (by kernel_rfl) (fun _ h => by cases h) primeRight_row_tie rfl ⟨rfl, rfl⟩ (by kernel_rfl) rfl plain (by kernel_rfl)
end Go.Proofs.YtncidpckokclbaaDoor.primeRight
