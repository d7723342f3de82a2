/- PrimeCut: whatever the list and the place, the law answers true, and nothing that was there has turned. No condition. -/
import Derived.Test.YtncidpckokclbaaDoorAwake02
import Derived.Test.YtncidpckokclbaaDoorBuilds
import Derived.Test.YtncidpckokclbaaDoorCutMath
import Derived.Test.YtncidpckokclbaaDoorRef02
import Derived.Test.YtncidpckokclbaaDoorDoor
import Derived.Deep.RegionLaw
namespace Go.Proofs.YtncidpckokclbaaDoor.primeCut
open Go.ChangeShapes Go.WideShapes Go.ChangeAt Go.RowKit Go.Maps

set_option maxRecDepth 100000 in
set_option maxHeartbeats 2000000 in
theorem walk (v : Value) (l : List Prf) (at_ : Int) (w : World) (hv : Proofs w v l) (hl : ∀ f ∈ l, f.Ok) (ha : (Lit.int .u8 at_).wf = true) (hT : Tab w) :
    Calls Tryd.prog 8 #[v, .int .u8 at_] w (Ret (.bool true) w) := by
  have Hv := hid hv
  obtain ⟨p, cap, rfl, hc1, hc2, hc⟩ := hv
  have ha2 : 0 ≤ at_ ∧ at_ ≤ 255 := by simpa [Lit.wf, IntKind.min, IntKind.max, IntKind.bits, IntKind.signed] using ha
  have Hl := hid hl; have HT := hid hT; have Hc := hid hc
  clear hl hT hc ha
  have b0 : decide ((firstD l : Int) ≤ (l.length : Int)) = true := by have := firstD_le l; simp; omega
  have b00 : decide (firstD l ≤ l.length) = true := decide_eq_true (firstD_le l)
  obtain ⟨x, ex⟩ : ∃ x, shortB l = x := ⟨_, rfl⟩
  have EX := hid ex; clear ex
  cases x with
  | false =>
    go_enter Tryd.func8, Tryd.ntmps8
    go_wp2_with fail
    refine (awake02 _ HT.out).mono ?_; rintro _ w1 ⟨rfl, x1⟩
    go_wp2_with fail
    refine (Short_any _ l _ (Hv.out.ext x1)).mono ?_; rintro _ w2 ⟨rfl, x2⟩
    rw [EX.out]
    have hw2 : Ext w w2 := (by repeat (first | exact Ext.refl _ | assumption | refine Ext.drew ?_ | refine Ext.drewN ?_ _ | refine Ext.alloc ?_ _ | refine Ext.trans ?_ (by assumption)))
    go_wp2_with fail
    refine (First_any _ l _ (Hv.out.ext hw2) Hl.out).mono ?_; rintro _ w3 ⟨rfl, x3⟩
    go_wp2_with fail
    go_ret
    exact ⟨rfl, (by repeat (first | exact Ext.refl _ | assumption | refine Ext.drew ?_ | refine Ext.drewN ?_ _ | refine Ext.alloc ?_ _ | refine Ext.trans ?_ (by assumption)))⟩
  | true =>
    have hl40 : l.length ≤ 40 := by
      have := EX.out
      simp only [shortB, Bool.and_eq_true, decide_eq_true_eq] at this
      exact this.1
    obtain ⟨y, ey⟩ : ∃ y, decide (firstD l = l.length) = y := ⟨_, rfl⟩
    have EY := hid ey; clear ey
    cases y with
    | false =>
      go_enter Tryd.func8, Tryd.ntmps8
      go_wp2_with fail
      refine (awake02 _ HT.out).mono ?_; rintro _ w1 ⟨rfl, x1⟩
      go_wp2_with fail
      refine (Short_any _ l _ (Hv.out.ext x1)).mono ?_; rintro _ w2 ⟨rfl, x2⟩
      rw [EX.out]
      have hw2 : Ext w w2 := (by repeat (first | exact Ext.refl _ | assumption | refine Ext.drew ?_ | refine Ext.drewN ?_ _ | refine Ext.alloc ?_ _ | refine Ext.trans ?_ (by assumption)))
      go_wp2_with fail
      refine (Check_any _ l _ (Hv.out.ext hw2) Hl.out).mono ?_; rintro _ w3 ⟨rfl, x3⟩
      rw [EY.out]
      have hw3 : Ext w w3 := (by repeat (first | exact Ext.refl _ | assumption | refine Ext.drew ?_ | refine Ext.drewN ?_ _ | refine Ext.alloc ?_ _ | refine Ext.trans ?_ (by assumption)))
      go_wp2_with fail
      refine (First_any _ l _ (Hv.out.ext hw3) Hl.out).mono ?_; rintro _ w4 ⟨rfl, x4⟩
      go_wp2_with fail
      go_ret
      exact ⟨rfl, (by repeat (first | exact Ext.refl _ | assumption | refine Ext.drew ?_ | refine Ext.drewN ?_ _ | refine Ext.alloc ?_ _ | refine Ext.trans ?_ (by assumption)))⟩
    | true =>
      have hf : firstD l = l.length := by simpa using EY.out
      have HF := hid hf
      clear hf
      go_enter Tryd.func8, Tryd.ntmps8
      go_wp2_with fail
      refine (awake02 _ HT.out).mono ?_; rintro _ w1 ⟨rfl, x1⟩
      go_wp2_with fail
      refine (Short_any _ l _ (Hv.out.ext x1)).mono ?_; rintro _ w2 ⟨rfl, x2⟩
      rw [EX.out]
      have hw2 : Ext w w2 := (by repeat (first | exact Ext.refl _ | assumption | refine Ext.drew ?_ | refine Ext.drewN ?_ _ | refine Ext.alloc ?_ _ | refine Ext.trans ?_ (by assumption)))
      go_wp2_with fail
      refine (Check_any _ l _ (Hv.out.ext hw2) Hl.out).mono ?_; rintro _ w3 ⟨rfl, x3⟩
      rw [EY.out]
      have hw3 : Ext w w3 := (by repeat (first | exact Ext.refl _ | assumption | refine Ext.drew ?_ | refine Ext.drewN ?_ _ | refine Ext.alloc ?_ _ | refine Ext.trans ?_ (by assumption)))
      clear x1 x2 x3 hw2
      go_wp2_with fail
      go_loopw [5] (fun i wr => ∃ k : Nat, i = .int .i64 k ∧ k ≤ l.length + 1 ∧ Ext w wr) (fun i _ => l.length + 1 - (intOf i).toNat)
      case atStart => exact ⟨0, rfl, by omega, (by repeat (first | exact Ext.refl _ | assumption | refine Ext.drew ?_ | refine Ext.drewN ?_ _ | refine Ext.alloc ?_ _ | refine Ext.trans ?_ (by assumption)))⟩
      case round =>
        obtain ⟨k, rfl, hk, hw⟩ := hrel
        by_cases hlt : k ≤ l.length
        · have b1 : decide ((k : Int) ≤ (l.length : Int)) = true := by simp; omega
          have hct := hid ((Hv.out.ext hw).take k hlt)
          have hft := firstD_take HF.out hlt
          have hln : (l.take k).length = k := by simp; omega
          have HFT := hid hft; have HLN := hid hln
          clear hft hln
          have b2 : ((k : Int) != (k : Int)) = false := by simp
          go_wp2_with fail
          refine (Check_any _ (l.take k) _ hct.out (fun f hf => Hl.out f (List.mem_of_mem_take hf))).mono ?_; rintro _ w4 ⟨rfl, x4⟩
          rw [show decide (firstD (l.take k) = (l.take k).length) = true by rw [HFT.out, HLN.out]; simp]
          go_wp2_with fail
          refine (First_any _ (l.take k) _ (hct.out.ext x4) (fun f hf => Hl.out f (List.mem_of_mem_take hf))).mono ?_; rintro _ w5 ⟨rfl, x5⟩
          rw [HFT.out]
          go_wp2_with fail
          go_roundw
          case rel => exact ⟨k + 1, by go_num, by omega, (hw.trans x4).trans x5⟩
          case measure => simp [intOf]; omega
        · have b1 : decide ((k : Int) ≤ (l.length : Int)) = false := by simp; omega
          by_cases h0 : l.length = 0
          · have b2 : ((l.length : Int) == 0) = true := beq_iff_eq.2 (by omega)
            replace h0 := hid h0
            go_wp2_with fail
            go_ret
            exact ⟨rfl, (by repeat (first | exact Ext.refl _ | assumption | refine Ext.drew ?_ | refine Ext.drewN ?_ _ | refine Ext.alloc ?_ _ | refine Ext.trans ?_ (by assumption)))⟩
          have b2 : ((l.length : Int) == 0) = false := beq_eq_false_iff_ne.2 (by omega)
          have hpos : 0 < l.length := by omega
          obtain ⟨q, eq⟩ : ∃ q : Nat, at_ % (l.length : Int) = q := ⟨(at_ % (l.length : Int)).toNat, by have := Int.emod_nonneg at_ (show (l.length : Int) ≠ 0 by omega); omega⟩
          have hq : q < l.length := by have := Int.emod_lt_of_pos at_ (show (0 : Int) < l.length by omega); omega
          obtain ⟨b, off, rfl, hb, hcell⟩ := Hc.out hpos
          obtain ⟨gs, hgs, hgp, hgc⟩ := (Hv.out.ext hw).withV hpos
          have hgl : gs.length = l.length := by rw [← hgs]; simp
          have hbr : b < wr.heap.size := by have := hw.size; omega
          have hn1 := flatV_take (q := q) hgc
          have hn2 := flatV_drop (q := q + 1) hgc
          have hl1 : (flatV (gs.take q)).length = q * 3 := by rw [flatV_length]; simp; omega
          have hl2 : (flatV (gs.drop (q + 1))).length = (l.length - (q + 1)) * 3 := by rw [flatV_length]; simp; omega
          have ho1 := flatV_one (gs := gs.take q) fun g hg => hgp g (List.mem_of_mem_take hg)
          have ho2 := flatV_one (gs := gs.drop (q + 1)) fun g hg => hgp g (List.mem_of_mem_drop hg)
          have Hgs := hid hgs; have Hgp := hid hgp; have Hn1 := hid hn1; have Hn2 := hid hn2; have Hl1 := hid hl1; have Hl2 := hid hl2; have Ho1 := hid ho1; have Ho2 := hid ho2
          have Hown0 := hid (World.ownsRow_lit (base := wr.heap.size) (e := 42) (size := 3) wr #[] 0 (Nat.le_refl _) (by simp [maxLen]) rfl)
          clear hn1 hn2 hl1 hl2 ho1 ho2
          have HCell := hid hcell
          clear hgs hgp hgc hcell
          have hwr1 : IntKind.i64.wrap ((q : Int) + 1) = (q : Int) + 1 := by rw [IntKind.wrap_i64]; omega
          have hp0 : (0 : Int) ≤ (q : Int) + 1 := by omega
          have hp1 : (q : Int) + 1 ≤ (l.length : Int) := by omega
          have hp2 : ((q : Int) + 1).toNat = q + 1 := by omega
          have hp3 : (q : Int) ≤ (cap : Int) := by omega
          have hp4 : q ≤ cap := by omega
          have hp5 : (q : Int) ≤ (l.length : Int) := by omega
          obtain ⟨j0, hj, hj0, hj1, hj2⟩ := info_parts info_proof
          by_cases hcq : cap = q + 1
          · subst hcq
            have hn3 : ∀ j u, (flatV (gs.drop (q + 1)))[j]? = some u → wr.cell? ((⟨b, off, none⟩ : Addr).add j) = some u := by
              intro j u hu
              rw [List.drop_eq_nil_of_le (by omega)] at hu
              simp [flatV] at hu
            have Hn3 := hid hn3
            have hp7 : (q : Int) ≤ (q : Int) + 1 := by omega
            have hp8 : q ≤ q + 1 := by omega
            clear hn3
            go_wp2_with fail
            go_region_law (first
              | (refine step_append_at _ rfl (.tmp 53) (.tmp 56) 22 rfl wr.heap.size 42 j0 (.agg #[.int .u64 0, .int .u64 0, .slice none 0 0]) 3 40 Tryd.underlying22 hj hj0 hj1 hj2 rfl (by decide) (.slice (some ⟨wr.heap.size, 0, none⟩) 0 0) 0 [] (by simp [Act.eval]) Hown0.out ⟨b, off, none⟩ q (q + 1) (flatV (gs.take q)) (by simp [Act.eval]) Hl1.out (news_ext (by repeat (first | exact Ext.refl _ | assumption | refine Ext.drew ?_ | refine Ext.drewN ?_ _ | refine Ext.alloc ?_ _ | refine Ext.trans ?_ (by assumption))) hbr Hn1.out) Ho1.out (by simp only [maxLen]; omega) (by omega) (by simp) ?_
                 intro v1 w4 hown1 hgrow1 hat1
                 have hx4 : Ext wr w4 := (((Ext.refl wr).alloc _).drew).grown hgrow1 (fun k e => by simp [Value.ownBlock] at e; omega))
              | (refine step_append_at _ rfl (.tmp 57) (.tmp 61) 22 rfl wr.heap.size 42 j0 (.agg #[.int .u64 0, .int .u64 0, .slice none 0 0]) 3 40 Tryd.underlying22 hj hj0 hj1 hj2 rfl (by decide) v1 (0 + q) ([] ++ flatV (gs.take q)) (by simp [Act.eval]) hown1 ⟨b, off, none⟩ (l.length - (q + 1)) (0) (flatV (gs.drop (q + 1))) (by simp [Act.eval]; omega) Hl2.out (news_ext hx4 hbr Hn3.out) Ho2.out (by simp only [maxLen]; omega) (by omega) hx4.size ?_
                 intro v2 w5 hown2 hgrow2 hat2))
            have hx5 : Ext wr w5 := hx4.grown hgrow2 (fun k e => (hown1.lt k e).1)
            have hpr : Proofs w5 v2 (without l q) := by
              have h1 := Proofs.ofV (gs := gs.take q ++ gs.drop (q + 1)) (n := 0 + q + (l.length - (q + 1))) (by rw [flatV_append]; simpa using hown2) (by simp; omega) (fun g hg => by
                refine (Hgp.out g ?_).ext hx5
                rcases List.mem_append.1 hg with h | h
                · exact List.mem_of_mem_take h
                · exact List.mem_of_mem_drop h)
              have e1 : (gs.take q ++ gs.drop (q + 1)).map (·.1) = without l q := by rw [List.map_append, List.map_take, List.map_drop, Hgs.out, without]
              rwa [e1] at h1
            obtain ⟨va, vc, rfl⟩ := ownsRow_slice hown2
            have hln2 : 0 + q + (l.length - (q + 1)) = l.length - 1 := by omega
            rw [hln2] at hpr ⊢
            clear hown2 hown1 hgrow1 hgrow2 hat1 hat2 Hown0 Hl1 Hl2 Hn1 Hn2 Ho1 Ho2
            have hx6 : Ext w w5 := hw.trans hx5
            have Hpr := hid hpr
            clear hpr
            go_wp2_with fail
            go_loopw [9, 8] (fun i nd wz => ∃ m z : Nat, i = .int .i64 m ∧ nd = .int .i64 z ∧ Hid (z = needF l q (m + 1)) ∧ q ≤ m ∧ m + 1 ≤ l.length ∧ Ext w5 wz) (fun i _ _ => (intOf i).toNat - q)
            case atStart => exact ⟨l.length - 1, l.length - 1, by go_num, rfl, hid (by rw [show l.length - 1 + 1 = l.length by omega, needF_end]), by omega, by omega, (by repeat (first | exact Ext.refl _ | assumption | refine Ext.drew ?_ | refine Ext.drewN ?_ _ | refine Ext.alloc ?_ _ | refine Ext.trans ?_ (by assumption)))⟩
            case round =>
              obtain ⟨m, z, rfl, rfl, hz, hm, hm2, hwz⟩ := hrel
              have hx7 : Ext w _ := hx6.trans hwz
              obtain ⟨d1, -⟩ := HCell.out q hq
              have gq := (hx7.cells _ _ hb).trans d1
              have hlq : ∀ j, leansB l q j = ((l.getD j .zero).parts.any fun x => decide (x.1 = (l.getD q .zero).num)) := fun _ => rfl
              have hsw : showsB (without l q) (l.getD q .zero).num = false := showsB_without HF.out hq
              clear d1
              generalize (l.getD q .zero).num = N at gq hlq hsw
              have Hlq := hid hlq; have Hsw := hid hsw
              clear hlq hsw
              by_cases hmq : q < m
              · omega
              · have c1 : decide ((q : Int) < (m : Int)) = false := by simpa using hmq
                have hzz : firstD (without l q) = z := by rw [firstD_without HF.out hq, hz.out, show m = q by omega]
                have Hzz := hid hzz
                have hok2 : ∀ f ∈ without l q, f.Ok := fun f hf => by
                  rcases List.mem_append.1 hf with h | h
                  · exact Hl.out _ (List.mem_of_mem_take h)
                  · exact Hl.out _ (List.mem_of_mem_drop h)
                have Hok2 := hid hok2
                clear hzz hok2
                have c4 : ((z : Int) == (z : Int)) = true := by simp
                go_wp2_with fail
                refine (First_any _ (without l q) _ (Hpr.out.ext hwz) Hok2.out).mono ?_; rintro _ w8 ⟨rfl, x8⟩
                rw [Hzz.out]
                have gq8 := (x8.cells _ _ (cell_lt gq)).trans gq
                go_wp2_with fail
                refine (Shows_any _ (without l q) N _ ((Hpr.out.ext hwz).ext x8) Hok2.out).mono ?_; rintro _ w9 ⟨rfl, x9⟩
                rw [Hsw.out]
                go_wp2_with fail
                go_ret
                exact ⟨rfl, (by repeat (first | exact Ext.refl _ | assumption | refine Ext.drew ?_ | refine Ext.drewN ?_ _ | refine Ext.alloc ?_ _ | refine Ext.trans ?_ (by assumption)))⟩
          · go_wp2_with fail
            go_region_law (first
              | (refine step_append_at _ rfl (.tmp 53) (.tmp 56) 22 rfl wr.heap.size 42 j0 (.agg #[.int .u64 0, .int .u64 0, .slice none 0 0]) 3 40 Tryd.underlying22 hj hj0 hj1 hj2 rfl (by decide) (.slice (some ⟨wr.heap.size, 0, none⟩) 0 0) 0 [] (by simp [Act.eval]) Hown0.out ⟨b, off, none⟩ q cap (flatV (gs.take q)) (by simp [Act.eval]) Hl1.out (news_ext (by repeat (first | exact Ext.refl _ | assumption | refine Ext.drew ?_ | refine Ext.drewN ?_ _ | refine Ext.alloc ?_ _ | refine Ext.trans ?_ (by assumption))) hbr Hn1.out) Ho1.out (by simp only [maxLen]; omega) (by omega) (by simp) ?_
                 intro v1 w4 hown1 hgrow1 hat1
                 have hx4 : Ext wr w4 := (((Ext.refl wr).alloc _).drew).grown hgrow1 (fun k e => by simp [Value.ownBlock] at e; omega))
              | (refine step_append_at _ rfl (.tmp 57) (.tmp 61) 22 rfl wr.heap.size 42 j0 (.agg #[.int .u64 0, .int .u64 0, .slice none 0 0]) 3 40 Tryd.underlying22 hj hj0 hj1 hj2 rfl (by decide) v1 (0 + q) ([] ++ flatV (gs.take q)) (by simp [Act.eval]) hown1 ⟨b, off + (q + 1) * 3, none⟩ (l.length - (q + 1)) (cap - (q + 1)) (flatV (gs.drop (q + 1))) (by simp [Act.eval]) Hl2.out (news_ext hx4 hbr Hn2.out) Ho2.out (by simp only [maxLen]; omega) (by omega) hx4.size ?_
                 intro v2 w5 hown2 hgrow2 hat2))
            have hx5 : Ext wr w5 := hx4.grown hgrow2 (fun k e => (hown1.lt k e).1)
            have hpr : Proofs w5 v2 (without l q) := by
              have h1 := Proofs.ofV (gs := gs.take q ++ gs.drop (q + 1)) (n := 0 + q + (l.length - (q + 1))) (by rw [flatV_append]; simpa using hown2) (by simp; omega) (fun g hg => by
                refine (Hgp.out g ?_).ext hx5
                rcases List.mem_append.1 hg with h | h
                · exact List.mem_of_mem_take h
                · exact List.mem_of_mem_drop h)
              have e1 : (gs.take q ++ gs.drop (q + 1)).map (·.1) = without l q := by rw [List.map_append, List.map_take, List.map_drop, Hgs.out, without]
              rwa [e1] at h1
            obtain ⟨va, vc, rfl⟩ := ownsRow_slice hown2
            have hln2 : 0 + q + (l.length - (q + 1)) = l.length - 1 := by omega
            rw [hln2] at hpr ⊢
            clear hown2 hown1 hgrow1 hgrow2 hat1 hat2 Hown0 Hl1 Hl2 Hn1 Hn2 Ho1 Ho2
            have hx6 : Ext w w5 := hw.trans hx5
            have Hpr := hid hpr
            clear hpr
            go_wp2_with fail
            go_loopw [9, 8] (fun i nd wz => ∃ m z : Nat, i = .int .i64 m ∧ nd = .int .i64 z ∧ Hid (z = needF l q (m + 1)) ∧ q ≤ m ∧ m + 1 ≤ l.length ∧ Ext w5 wz) (fun i _ _ => (intOf i).toNat - q)
            case atStart => exact ⟨l.length - 1, l.length - 1, by go_num, rfl, hid (by rw [show l.length - 1 + 1 = l.length by omega, needF_end]), by omega, by omega, (by repeat (first | exact Ext.refl _ | assumption | refine Ext.drew ?_ | refine Ext.drewN ?_ _ | refine Ext.alloc ?_ _ | refine Ext.trans ?_ (by assumption)))⟩
            case round =>
              obtain ⟨m, z, rfl, rfl, hz, hm, hm2, hwz⟩ := hrel
              have hx7 : Ext w _ := hx6.trans hwz
              obtain ⟨d1, -⟩ := HCell.out q hq
              have gq := (hx7.cells _ _ hb).trans d1
              have hlq : ∀ j, leansB l q j = ((l.getD j .zero).parts.any fun x => decide (x.1 = (l.getD q .zero).num)) := fun _ => rfl
              have hsw : showsB (without l q) (l.getD q .zero).num = false := showsB_without HF.out hq
              clear d1
              generalize (l.getD q .zero).num = N at gq hlq hsw
              have Hlq := hid hlq; have Hsw := hid hsw
              clear hlq hsw
              by_cases hmq : q < m
              · have c1 : decide ((q : Int) < (m : Int)) = true := by simpa using hmq
                obtain ⟨-, -, v', c3, c4⟩ := HCell.out m (by omega)
                have gm := (hx7.cells _ _ hb).trans c3
                have hps := Hlq.out m
                have hok := (Hl.out _ (getD_mem .zero (show m < l.length by omega))).2.2.2.2
                generalize (l.getD m .zero).parts = ps at c4 hps hok
                replace c4 := c4.ext hx7
                obtain ⟨pa, pcap, rfl, p1, p2, p3⟩ := c4
                have P3 := hid p3; have Hps := hid hps; have Hok := hid hok
                clear p3 hps hok c3
                go_wp2_with fail
                go_loopw [10, 8] (fun i nd wt => ∃ t y : Nat, i = .int .i64 t ∧ nd = .int .i64 y ∧ Hid (y = if ((ps.take t).any fun x => decide (x.1 = N)) then m - 1 else z) ∧ t ≤ ps.length ∧ Ext wr wt) (fun i _ _ => ps.length - (intOf i).toNat)
                case atStart => exact ⟨0, z, rfl, rfl, hid (by simp), by omega, (by repeat (first | exact Ext.refl _ | assumption | refine Ext.drew ?_ | refine Ext.drewN ?_ _ | refine Ext.alloc ?_ _ | refine Ext.trans ?_ (by assumption)))⟩
                case round =>
                  obtain ⟨t, y, rfl, rfl, hy, ht, hwt⟩ := hrel
                  have hx8 : Ext w wr := hx7.trans hwt
                  have hwy : Ext w5 wr := hwz.trans hwt
                  have gm2 := (hwt.cells _ _ (cell_lt gm)).trans gm
                  have gq2 := (hwt.cells _ _ (cell_lt gq)).trans gq
                  by_cases htl : t < ps.length
                  · have c2 : decide ((t : Int) < (ps.length : Int)) = true := by simpa using htl
                    obtain ⟨pb, poff, rfl, hpb, hpc⟩ := P3.out (by omega)
                    have gp := (hwt.cells _ _ hpb).trans (hpc t htl).1
                    have htk : ps.take (t + 1) = ps.take t ++ [ps.getD t (0, 0)] := by
                      rw [List.take_succ_eq_append_getElem htl]; simp [List.getD, List.getElem?_eq_getElem htl]
                    generalize ps.getD t (0, 0) = e at gp htk
                    obtain ⟨e1, e2⟩ := e
                    have Htk := hid htk
                    simp only at gp
                    clear htk hpc
                    by_cases he : e1 = N
                    · have c3 : ((e1 : Int) == N) = true := beq_iff_eq.2 he
                      have He := hid he
                      clear he
                      go_wp2_with fail
                      go_quiet (fail)
                      go_wp2_with fail
                      go_roundw
                      case rel => exact ⟨t + 1, m - 1, by go_num, by go_num, hid (by rw [Htk.out]; simp [He.out]), by omega, (by repeat (first | exact Ext.refl _ | assumption | refine Ext.drew ?_ | refine Ext.drewN ?_ _ | refine Ext.alloc ?_ _ | refine Ext.trans ?_ (by assumption)))⟩
                      case measure => simp [intOf]; omega
                    · have c3 : ((e1 : Int) == N) = false := beq_eq_false_iff_ne.2 he
                      have He := hid he
                      clear he
                      go_wp2_with fail
                      go_quiet (fail)
                      go_wp2_with fail
                      go_roundw
                      case rel => exact ⟨t + 1, y, by go_num, rfl, hid (by rw [Htk.out, List.any_append, show ([(e1, e2)].any fun x => decide (x.1 = N)) = false by simp [He.out], Bool.or_false]; exact hy.out), by omega, (by repeat (first | exact Ext.refl _ | assumption | refine Ext.drew ?_ | refine Ext.drewN ?_ _ | refine Ext.alloc ?_ _ | refine Ext.trans ?_ (by assumption)))⟩
                      case measure => simp [intOf]; omega
                  · have c2 : decide ((t : Int) < (ps.length : Int)) = false := by simpa using htl
                    have hyn : y = needF l q (m - 1 + 1) := by
                      rw [show m - 1 + 1 = m by omega, needF_step l q m (by omega), Hps.out, ← hz.out, hy.out, List.take_of_length_le (by omega)]
                    have Hyn := hid hyn
                    clear hyn
                    go_wp2_with fail
                    go_roundw
                    case rel => exact ⟨m - 1, y, by go_num, rfl, Hyn, by omega, by omega, (by repeat (first | exact Ext.refl _ | assumption | refine Ext.drew ?_ | refine Ext.drewN ?_ _ | refine Ext.alloc ?_ _ | refine Ext.trans ?_ (by assumption)))⟩
                    case measure => simp [intOf]; omega
              · have c1 : decide ((q : Int) < (m : Int)) = false := by simpa using hmq
                have hzz : firstD (without l q) = z := by rw [firstD_without HF.out hq, hz.out, show m = q by omega]
                have Hzz := hid hzz
                have hok2 : ∀ f ∈ without l q, f.Ok := fun f hf => by
                  rcases List.mem_append.1 hf with h | h
                  · exact Hl.out _ (List.mem_of_mem_take h)
                  · exact Hl.out _ (List.mem_of_mem_drop h)
                have Hok2 := hid hok2
                clear hzz hok2
                have c4 : ((z : Int) == (z : Int)) = true := by simp
                go_wp2_with fail
                refine (First_any _ (without l q) _ (Hpr.out.ext hwz) Hok2.out).mono ?_; rintro _ w8 ⟨rfl, x8⟩
                rw [Hzz.out]
                have gq8 := (x8.cells _ _ (cell_lt gq)).trans gq
                go_wp2_with fail
                refine (Shows_any _ (without l q) N _ ((Hpr.out.ext hwz).ext x8) Hok2.out).mono ?_; rintro _ w9 ⟨rfl, x9⟩
                rw [Hsw.out]
                go_wp2_with fail
                go_ret
                exact ⟨rfl, (by repeat (first | exact Ext.refl _ | assumption | refine Ext.drew ?_ | refine Ext.drewN ?_ _ | refine Ext.alloc ?_ _ | refine Ext.trans ?_ (by assumption)))⟩
theorem contract (H : Type) (enc : TypeId × Value → H) (W : World) (base : Nat) (args : Array Value) (ds gs : List (DataW H)) (before : List MemPlace)
    (hval : ∀ (j : Nat) t v, Tryd.f8.params[j]? = some t → args[j]? = some v → Value.okWide Tryd.prog W .any base t v)
    (hW : DataW.Whole enc Tryd.prog Tryd.f8.params.toList Rows.primeCutSpec.vars false W args.toList ds gs before) (hL : laidMetH Tryd.prog Rows.primeCutRow.laid W) :
    Calls Tryd.prog 8 args W fun e W' => ∃ v, e = .returned v ∧ Rows.primeCutSpec.post enc Tryd.prog Tryd.f8 false true false false W args v W' := by
  have hW' := hW
  obtain ⟨p, q, hA0, hV, rfl, _, _⟩ := hW
  have hA : DataW.TrodAll enc Tryd.prog W 0 (fun _ => true) true Tryd.f8.params.toList args.toList ds p := hA0
  rw [Tryd.params8] at hA hval
  obtain ⟨v0, vs0, d0, ds0, p0, q0, hargs, rfl, rfl, h0, r0⟩ := trodAll_cons hA
  obtain ⟨v1, vs1, d1, ds1, p1, q1, rfl, rfl, rfl, h1, r1⟩ := trodAll_cons r0
  obtain ⟨rfl, rfl, rfl⟩ := trodAll_nil r1
  obtain rfl : args = #[v0, v1] := by cases args; simp_all
  obtain ⟨rfl, rfl⟩ := trodVars_none hV
  obtain ⟨xs0, i0, w0⟩ := open_Proofs (hval 0 22 v0 rfl rfl) h0
  obtain ⟨a1, rfl, rfl, rfl, w1⟩ := open_int Tryd.underlying5 (hval 1 5 v1 rfl rfl) h1
  refine (walk v0 xs0 a1 W i0 w0 w1 (tab_of hL)).mono fun e W' ⟨he, hg⟩ => ⟨_, he, ?_⟩
  exact law_post (by kernel_rfl) (by kernel_rfl) rfl Tryd.underlying4 rfl rfl hW' hg
theorem laid_met (os : Os) : laidMet Tryd.prog Rows.primeCutRow.laid ((laidWorld os).forCall (fun _ _ => 0) ⟨#[], #[.slice none 0 0, .int .u8 0], []⟩).memory :=
  laidMet_of_run' 70 (by kernel_rfl) (by kernel_rfl)
theorem reads (os : Os) {H : Type} (enc : TypeId × Value → H) : ∃ places, DataW.whole enc Tryd.prog ((laidWorld os).forCall (fun _ _ => 0) ⟨#[], #[.slice none 0 0, .int .u8 0], []⟩).memory Tryd.f8.params.toList Rows.primeCutSpec.vars false #[(Value.slice none 0 0), (Value.int .u8 0)].toList 8 = some ([.nil, .lit (.int .u8 0)], [], places) :=
  ⟨[], by kernel_rfl⟩
set_option maxRecDepth 100000 in
theorem lifted (os : Os) (started : os.Started) (H : Type) (enc : TypeId × Value → H) (F : Stop.Interp) :
    ReturnsInHanded {} Tryd.checked os 8 .any ((OpenSpec.ofChange Rows.primeCutSpec).preRow enc Tryd.prog Tryd.f8 Rows.primeCutRow.domain false Rows.primeCutRow.laid) (((OpenSpec.ofChange Rows.primeCutSpec).at F).post enc Tryd.prog Tryd.f8 false true false false) := by
  obtain ⟨places, hx⟩ := reads os enc
  refine returnsInHanded_of_row (C := Tryd.checked) (s := OpenSpec.ofChange Rows.primeCutSpec) own started (by kernel_rfl) Tryd.func8
    (witness_row_at (enc := enc) (C := Tryd.checked) false (laidWorld os) #[.slice none 0 0, .int .u8 0] rfl (by kernel_rfl) (by kernel_rfl) (by kernel_rfl)
      (OpenSpec.preRow_of_cond 8 hx (by kernel_rfl) (fun k hk => by cases hk) (by kernel_rfl) (laid_met os))) ?_
  intro W base args ds gs before hval hW _ _ _ hL _ _
  exact contract H enc W base args ds gs before hval hW hL
theorem said : Rows.PrimeCutSaid :=
  OpenClaim.holds_of_cond 8 Tryd.f8 rfl rfl rfl rfl rfl rfl rfl ⟨rfl, rfl, rfl, rfl, rfl⟩ rfl rfl rfl rfl rfl (by kernel_rfl) Tryd.func8 (by kernel_rfl)
    (of_decide_eq_true (by kernel_rfl)) (by unfold Func.isWrapper; first | (rw [if_pos (by decide +kernel)]; kernel_rfl) | (rw [if_neg (by decide +kernel)]; exact ⟨rfl, rfl⟩))
    (fun os started H enc _ F => by rw [OpenClaim.pre_eq_preRow]; exact lifted os started H enc F)
theorem plain (f : FuncId) (fn : Func) (hf : Tryd.pinned.checked.prog.funcNamed "affidavit/affidavitlaw02.PrimeCut" = some f) (hfn : Tryd.pinned.checked.prog.funcs[f]? = some fn) :
    false = Tryd.pinned.checked.prog.looks [] ∧ ∀ (j : Nat) t, fn.params[j]? = some t → Tryd.pinned.checked.prog.wantsStandIn t = false := by
  obtain rfl : f = 8 := Option.some.inj ((show Tryd.prog.funcNamed "affidavit/affidavitlaw02.PrimeCut" = some 8 by kernel_rfl).symm.trans hf) |>.symm
  obtain rfl : fn = Tryd.f8 := (Option.some.inj (Tryd.func8.symm.trans hfn)).symm
  refine ⟨by kernel_rfl, fun j t ht => ?_⟩
  rw [Tryd.params8] at ht
  have hm : t ∈ ([22, 5] : List Nat) := by simpa using Array.mem_of_getElem? ht
  have hall : ∀ t ∈ ([22, 5] : List Nat), Tryd.prog.wantsStandIn t = false := List.all_eq_true.1 (show ([22, 5] : List Nat).all (fun t => Tryd.prog.wantsStandIn t == false) = true by kernel_rfl) |> fun h t ht => by simpa using h t ht
  exact hall t hm

/-- the statement -/
theorem card : Rows.PrimeCutCardSaid :=
  Claim7.holds_tied_plain_at .later [] _ _ _ _ said (fun _ h => by cases h) (by kernel_rfl) (fun _ h => by cases h) primeCut_row_tie rfl ⟨rfl, rfl⟩ (by kernel_rfl) rfl plain (by kernel_rfl)
end Go.Proofs.YtncidpckokclbaaDoor.primeCut
