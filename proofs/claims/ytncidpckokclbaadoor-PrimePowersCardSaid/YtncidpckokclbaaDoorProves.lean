/- What package prime's functions answer: is it a proof? which is the first that is none? -/
import Derived.Test.YtncidpckokclbaaDoorPrime
namespace Go.Proofs.YtncidpckokclbaaDoor
open Go.RowKit Go.Maps

theorem ownsMap_ext {H : Type} {P : Program} {k : TypeId} {R : Value → Option (DataW H × List MemPlace)} {w w' : World} {b n : Nat} {D : DataW H} (h : w.ownsMap P k R b n D) (he : Ext w w') : w'.ownsMap P k R b n D := by
  have hlt := h.lt
  obtain ⟨es, clock, hb, r⟩ := h
  exact ⟨es, clock, (he.block b hlt).trans hb, r⟩
theorem has_put {H : Type} {D : DataW H} (hD : IsMap D) (a q : Int) (d : DataW H) : Maps.has (D.put (.int .u64 a) d) (.int .u64 q) = (decide (q = a) || Maps.has D (.int .u64 q)) := by
  by_cases h : q = a
  · subst h; rw [has_put_same hD (by simp [WideAt.IsKeyLit])]; simp
  · rw [has_put_other (by simpa using h)]; simp [h]
theorem u64_key : Keyed Tryd.prog 23 := int_keyed Tryd.underlying23
theorem unit_zero (w : World) : (zeroValue 51).run Tryd.prog w = .ok (.agg #[]) w := by kernel_rfl
theorem u64_mk {n : Int} (h0 : 0 ≤ n) (h : n ≤ 18446744073709551615) : (Lit.int .u64 n).wf = true := by
  simp [Lit.wf, IntKind.min, IntKind.max, IntKind.bits, IntKind.signed]; omega
theorem u64_keyOf {n : Int} (h0 : 0 ≤ n) (h : n ≤ 18446744073709551615) : keyOf Tryd.prog 23 (.int .u64 n) = some (.int .u64 n) := keyOf_int_mk Tryd.underlying23 (u64_mk h0 h)

/-- is it a proof, and does it show its number by what is known? -/
def provesB (known : Int → Bool) (f : Prf) : Bool :=
  decide (f.root ≠ 0) && hasB f.num [f.root] && decide (f.parts.length ≤ 20) && upB 1 f.parts (f.num - 1) && (f.parts.all fun q => known q.1) && rootB f.num f.root f.parts

set_option maxRecDepth 100000 in
set_option maxHeartbeats 2000000 in
theorem proves_any (f : Prf) (v : Value) (b nn : Nat) (D : DataW Unit) (w : World) (hf : f.Ok) (hn : 1 ≤ f.num) (hv : Parts w v f.parts) (hown : w.ownsMap Tryd.prog 23 unitElem b nn D) :
    Calls Tryd.prog 28 #[.agg #[.int .u64 f.num, .int .u64 f.root, v], .map (some b)] w (Ret (.bool (provesB (fun q => Maps.has D (.int .u64 q)) f)) w) := by
  obtain ⟨n, r, ps⟩ := f
  obtain ⟨hn0, hn1, hr0, hr1, ho⟩ := hf
  simp only at *
  have Hv := hid hv
  obtain ⟨a, cap, rfl, hc1, hc2, hc⟩ := hv
  have Hc := hid hc; have Ho := hid ho; have Hm := hid hown
  clear hc ho hown
  by_cases h0 : r = 0
  · go_enter Tryd.func28, Tryd.ntmps28
    go_wp2_with fail
    go_ret
    exact ⟨ret_bool (by simp [provesB, h0]), (by repeat (first | exact Ext.refl _ | assumption | refine Ext.drew ?_ | refine Ext.drewN ?_ _ | refine Ext.alloc ?_ _ | refine Ext.trans ?_ (by assumption)))⟩
  have b0 : (r == 0) = false := by simp [h0]
  cases eh : hasB n [r] with
  | false =>
    have EH := hid eh; clear eh
    go_enter Tryd.func28, Tryd.ntmps28
    go_wp2_with fail
    refine (has_any n _ [r] _ hn0 hn1 (Ints.at1 (by simp)) (U64s.one hr0 hr1)).mono ?_; rintro _ w1 ⟨rfl, h1⟩
    rw [EH.out]
    subst h1
    go_wp2_with fail
    go_ret
    exact ⟨ret_bool (by simp [provesB, EH.out]), (by repeat (first | exact Ext.refl _ | assumption | refine Ext.drew ?_ | refine Ext.drewN ?_ _ | refine Ext.alloc ?_ _ | refine Ext.trans ?_ (by assumption)))⟩
  | true =>
    have EH := hid eh; clear eh
    by_cases hl : ps.length ≤ 20
    · have b1 : decide ((20 : Int) < (ps.length : Int)) = false := by simp; omega
      cases eu : upB 1 ps (n - 1) with
      | false =>
        have EU := hid eu; clear eu
        go_enter Tryd.func28, Tryd.ntmps28
        go_wp2_with fail
        refine (has_any n _ [r] _ hn0 hn1 (Ints.at1 (by simp)) (U64s.one hr0 hr1)).mono ?_; rintro _ w1 ⟨rfl, h1⟩
        rw [EH.out]
        subst h1
        go_wp2_with fail
        refine (makeUp_any _ ps (n - 1) _ (by omega) (by omega) (Hv.out.ext (by repeat (first | exact Ext.refl _ | assumption | refine Ext.drew ?_ | refine Ext.drewN ?_ _ | refine Ext.alloc ?_ _ | refine Ext.trans ?_ (by assumption)))) Ho.out).mono ?_; rintro _ w2 ⟨rfl, h2⟩
        rw [EU.out]
        go_wp2_with fail
        go_ret
        exact ⟨ret_bool (by simp [provesB, EU.out]), (by repeat (first | exact Ext.refl _ | assumption | refine Ext.drew ?_ | refine Ext.drewN ?_ _ | refine Ext.alloc ?_ _ | refine Ext.trans ?_ (by assumption)))⟩
      | true =>
        have EU := hid eu; clear eu
        go_enter Tryd.func28, Tryd.ntmps28
        go_wp2_with fail
        refine (has_any n _ [r] _ hn0 hn1 (Ints.at1 (by simp)) (U64s.one hr0 hr1)).mono ?_; rintro _ w1 ⟨rfl, h1⟩
        rw [EH.out]
        subst h1
        go_wp2_with fail
        refine (makeUp_any _ ps (n - 1) _ (by omega) (by omega) (Hv.out.ext (by repeat (first | exact Ext.refl _ | assumption | refine Ext.drew ?_ | refine Ext.drewN ?_ _ | refine Ext.alloc ?_ _ | refine Ext.trans ?_ (by assumption)))) Ho.out).mono ?_; rintro _ w2 ⟨rfl, h2⟩
        rw [EU.out]
        have B : Blk w2 w.heap.size 42 #[.int .u64 n, .int .u64 r, .slice a ps.length cap] := (Blk.new w _ _).ext (by repeat (first | exact Ext.refl _ | assumption | refine Ext.drew ?_ | refine Ext.drewN ?_ _ | refine Ext.alloc ?_ _ | refine Ext.trans ?_ (by assumption)))
        have c0 := B.cell 0; have c1 := B.cell 1; have c2 := B.cell 2
        simp only [List.getElem?_toArray, List.getElem?_cons_zero, List.getElem?_cons_succ] at c0 c1 c2
        have hw2 : Ext w w2 := (by repeat (first | exact Ext.refl _ | assumption | refine Ext.drew ?_ | refine Ext.drewN ?_ _ | refine Ext.alloc ?_ _ | refine Ext.trans ?_ (by assumption)))
        go_wp2_with fail
        go_loopw [39] (fun i wr => ∃ (k : Nat), i = .int .i64 k ∧ k ≤ ps.length ∧ (∀ j, j < k → Maps.has D (.int .u64 (ps.getD j (0, 0)).1) = true) ∧ Ext w2 wr) (fun i _ => ps.length - (intOf i).toNat)
        case atStart => exact ⟨0, rfl, by omega, by simp, (by repeat (first | exact Ext.refl _ | assumption | refine Ext.drew ?_ | refine Ext.drewN ?_ _ | refine Ext.alloc ?_ _ | refine Ext.trans ?_ (by assumption)))⟩
        case round =>
          obtain ⟨k, rfl, hk, hall, hw⟩ := hrel
          have Ha := hid hall; clear hall
          by_cases hlt : k < ps.length
          · obtain ⟨b', off, rfl, hb, hcell⟩ := Hc.out (by omega)
            have g1 := ((hw2.trans hw).cells _ _ hb).trans (hcell k hlt).1
            have g2 := ((hw2.trans hw).cells _ _ hb).trans (hcell k hlt).2
            have hg := Ho.out.get hlt
            clear hcell
            obtain ⟨q, eq⟩ : ∃ q, ps.getD k (0, 0) = q := ⟨_, rfl⟩
            obtain ⟨q1, q2⟩ := q
            rw [eq] at g1 g2 hg
            have Eq := hid eq; clear eq
            simp only at g1 g2 hg
            obtain ⟨x, ex⟩ : ∃ x, Maps.has D (.int .u64 q1) = x := ⟨_, rfl⟩
            have Ex := hid ex
            have hkey := hid (u64_keyOf hg.1 hg.2.1)
            cases x with
            | false =>
              go_wp2_with (first | (at_lookup; refine wpList_lookup_own_unit _ rfl _ _ 52 rfl 23 51 u64_key Tryd.underlying52 (unit_zero _) b nn _ rfl (ownsMap_ext Hm.out (by repeat (first | exact Ext.refl _ | assumption | refine Ext.drew ?_ | refine Ext.drewN ?_ _ | refine Ext.alloc ?_ _ | refine Ext.trans ?_ (by assumption)))) _ _ rfl hkey.out ?_; rw [Ex.out]) | fail)
              go_ret
              refine ⟨ret_bool ?_, (by repeat (first | exact Ext.refl _ | assumption | refine Ext.drew ?_ | refine Ext.drewN ?_ _ | refine Ext.alloc ?_ _ | refine Ext.trans ?_ (by assumption)))⟩
              have : (ps.all fun q => Maps.has D (.int .u64 q.1)) = false := by
                rw [List.all_eq_false]
                exact ⟨_, getD_mem (0, 0) hlt, by rw [Eq.out]; simp [Ex.out]⟩
              simp only [provesB, this, Bool.and_false, Bool.false_and]
            | true =>
              go_wp2_with (first | (at_lookup; refine wpList_lookup_own_unit _ rfl _ _ 52 rfl 23 51 u64_key Tryd.underlying52 (unit_zero _) b nn _ rfl (ownsMap_ext Hm.out (by repeat (first | exact Ext.refl _ | assumption | refine Ext.drew ?_ | refine Ext.drewN ?_ _ | refine Ext.alloc ?_ _ | refine Ext.trans ?_ (by assumption)))) _ _ rfl hkey.out ?_; rw [Ex.out]) | fail)
              go_roundw
              case rel => exact ⟨k + 1, by go_num, by omega, fun j hj => by
                by_cases e : j = k
                · rw [e, Eq.out]; exact Ex.out
                · exact Ha.out j (by omega), (by repeat (first | exact Ext.refl _ | assumption | refine Ext.drew ?_ | refine Ext.drewN ?_ _ | refine Ext.alloc ?_ _ | refine Ext.trans ?_ (by assumption)))⟩
              case measure => simp [intOf]; omega
          · have hall : (ps.all fun q => Maps.has D (.int .u64 q.1)) = true := by
              rw [List.all_eq_true]
              intro q hq
              obtain ⟨j, hj, rfl⟩ := List.mem_iff_getElem.1 hq
              have := Ha.out j (by omega)
              simpa [List.getD, List.getElem?_eq_getElem hj] using this
            have Hall := hid hall; clear hall
            have B' := B.ext hw
            have d0 := B'.cell 0; have d1 := B'.cell 1; have d2 := B'.cell 2
            simp only [List.getElem?_toArray, List.getElem?_cons_zero, List.getElem?_cons_succ] at d0 d1 d2
            go_wp2_with fail
            refine (isRoot_any n r _ ps _ hn hn1 hr0 hr1 (Hv.out.ext (by repeat (first | exact Ext.refl _ | assumption | refine Ext.drew ?_ | refine Ext.drewN ?_ _ | refine Ext.alloc ?_ _ | refine Ext.trans ?_ (by assumption)))) Ho.out (fun q hq => by have := upB_pos EU.out q hq; omega)).mono ?_; rintro _ w3 ⟨rfl, h3⟩
            go_wp2_with fail
            go_ret
            refine ⟨ret_bool ?_, (by repeat (first | exact Ext.refl _ | assumption | refine Ext.drew ?_ | refine Ext.drewN ?_ _ | refine Ext.alloc ?_ _ | refine Ext.trans ?_ (by assumption)))⟩
            simp only [provesB, EU.out, EH.out, Hall.out, decide_eq_true hl, decide_eq_true h0, Bool.true_and]
    · have b1 : decide ((20 : Int) < (ps.length : Int)) = true := by simp; omega
      go_enter Tryd.func28, Tryd.ntmps28
      go_wp2_with fail
      refine (has_any n _ [r] _ hn0 hn1 (Ints.at1 (by simp)) (U64s.one hr0 hr1)).mono ?_; rintro _ w1 ⟨rfl, h1⟩
      rw [EH.out]
      subst h1
      go_wp2_with fail
      go_ret
      exact ⟨ret_bool (by simp [provesB, hl]), (by repeat (first | exact Ext.refl _ | assumption | refine Ext.drew ?_ | refine Ext.drewN ?_ _ | refine Ext.alloc ?_ _ | refine Ext.trans ?_ (by assumption)))⟩
end Go.Proofs.YtncidpckokclbaaDoor
