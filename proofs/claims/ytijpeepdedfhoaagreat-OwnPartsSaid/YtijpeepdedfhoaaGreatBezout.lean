/- What poly.Bezout answers over a prime. -/
import Derived.Test.YtijpeepdedfhoaaGreatBun31
namespace Go.Proofs.YtijpeepdedfhoaaGreat
open Go.RowKit Go.Shelf

attribute [local go_sem] Oper.semAt_some

/-- what Bezout answers -/
def RetB (p : Int) (xs ys : List Int) (w : World) (e : Ending) (w' : World) : Prop := ∃ vg vs vt G S T, e = .returned (.tuple #[vg, vs, vt, .int .i64 0]) ∧ Ints .u64 w' vg G ∧ Ints .u64 w' vs S ∧ Ints .u64 w' vt T ∧ IsGcd p xs ys G ∧ Pol p S ∧ Pol p T ∧
  pol p G = pol p S * pol p xs + pol p T * pol p ys ∧ S.length ≤ max 1 ys.length ∧ T.length ≤ max 1 xs.length ∧ Ext w w'
def RetB1 (p : Int) (xs ys : List Int) (w : World) (e : Ending) (w' : World) : Prop := ∃ vg vs vt G S T, e = .returned (.tuple #[vg, vs, vt, .int .i64 0]) ∧ Ints .u64 w' vg G ∧ Ints .u64 w' vs S ∧ Ints .u64 w' vt T ∧ IsGcd p xs ys G ∧ Pol p S ∧ Pol p T ∧
  pol p G = pol p S * pol p xs + pol p T * pol p ys ∧ S.length ≤ max 1 ys.length ∧ T.length ≤ max 1 xs.length ∧ Ext w w' ∧ (ys.length = 1 → S = [])
theorem results_tmp4 {fn : Func} {t u v x : Tmp} (h : fn.results = #[.tmp t, .tmp u, .tmp v, .tmp x]) (tmps : Array Value) (P : Program) (w : World) :
    (results fn tmps).run P w = .ok (.tuple #[tmps.getD t undef, tmps.getD u undef, tmps.getD v undef, tmps.getD x undef]) w := by
  simp [results, h]
theorem Ints.own {k : IntKind} {w w' : World} {row : Option Nat} {v : Value} {xs : List Int} (h : Ints k w v xs) (hg : w.grownBy w' row) (hr : ∀ r, row = some r → ∃ o : Obj, w.heap[r]? = some o ∧ o.isCells = false) : Ints k w' v xs := by
  have h0 := h
  obtain ⟨a, cap, rfl, h1, h2, h3⟩ := h
  refine h0.grownA hg fun b off n c e hn e2 => ?_
  injection e with ea en _
  obtain ⟨b', off', ea', hb, hc⟩ := h3 (by omega)
  rw [ea'] at ea
  injection ea with ea
  injection ea with ea
  obtain ⟨o, ho, hoc⟩ := hr b e2.symm
  have hcell := hc 0 (by omega)
  rw [ea] at hcell
  unfold World.cell? at hcell
  simp only [ho] at hcell
  cases o <;> simp_all [Obj.isCells]

theorem Ints.setBox {w : World} {v : Value} {xs : List Int} {g : Nat} {t : TypeId} {a : Option Addr} {n c : Nat} (h : Ints .u64 w v xs) (hB : Boxed w g t (.slice a n c)) (u : Value) : Ints .u64 (w.setCell ⟨g, 0, none⟩ u) v xs := by
  obtain ⟨a', cap, rfl, h1, h2, h3⟩ := h
  refine ⟨a', cap, rfl, h1, h2, fun hp => ?_⟩
  obtain ⟨b, off, rfl, hb, hc⟩ := h3 hp
  have hne : b ≠ g := fun e => by
    subst e
    have c0 := hc 0 hp
    rw [Nat.add_zero] at c0
    unfold Boxed at hB
    unfold World.cell? at c0
    simp only [hB] at c0
    cases off with
    | zero => simp at c0
    | succ o => simp at c0
  exact ⟨b, off, rfl, by simpa [World.setCell] using hb, fun j hj => (World.cell?_setCell_other _ _ _ _ (by intro e; injection e with e1; exact hne e1.symm)).trans (hc j hj)⟩

/-- a quotient as the rounds are handed it -/
abbrev BzA (p : Int) (wb : World) := {x : Value × List Int // Ints .u64 wb x.1 x.2 ∧ Rng p x.2 ∧ x.2.length ≤ 513}
/-- between two rounds: the two it is made of so far lie in their boxes -/
def BzI (p : Int) (c : Ser p) (wb : World) (Js Jt n0 : Nat) (pre : List (Nat × BzA p wb)) (W : World) : Prop := ∃ vs vt S T, Boxed W Js 23 vs ∧ Boxed W Jt 23 vt ∧ Ints .u64 W vs S ∧ Ints .u64 W vt T ∧ Pol p S ∧ Pol p T ∧
  pol p S = (bz c (pre.map (·.2.1.2))).1 ∧ pol p T = (bz c (pre.map (·.2.1.2))).2 ∧ S.length ≤ 1 + 513 * pre.length ∧ T.length ≤ 1 + 513 * pre.length ∧ Ext wb W ∧ n0 ≤ W.heap.size
theorem bzI_own (p : Int) (c : Ser p) (wb : World) (Js Jt n0 B : Nat) (hB : wb.heap.size ≤ B) : OwnFrom B (BzI p c wb Js Jt n0) := by
  rintro pre W W' row ⟨vs, vt, S, T, h1, h2, h3, h4, h5, h6, h7, h8, h9, h10, h11, h12⟩ hg hr
  have hr' : ∀ r, row = some r → ∃ o : Obj, W.heap[r]? = some o ∧ o.isCells = false := fun r e => (hr r e).2
  refine ⟨vs, vt, S, T, h1.kept hg (fun e => ?_), h2.kept hg (fun e => ?_), h3.own hg hr', h4.own hg hr', h5, h6, h7, h8, h9, h10, h11.grown hg (fun k e => Nat.le_trans hB (hr k e).1), Nat.le_trans h12 hg.size⟩
  · obtain ⟨o, ho, hc⟩ := hr' Js e.symm
    rw [show W.heap[Js]? = _ from h1] at ho; cases ho; cases hc
  · obtain ⟨o, ho, hc⟩ := hr' Jt e.symm
    rw [show W.heap[Jt]? = _ from h2] at ho; cases ho; cases hc
theorem bz_len {p : Int} {S T q z : List Int} {n : Nat} (h : S.length ≤ 1 + 513 * n ∧ T.length ≤ 1 + 513 * n ∧ n ≤ 512) (hq : q.length ≤ 513) (hz : Pol p z) (e : pol p z = pol p q * pol p T) : S.length ≤ 1000000 ∧ z.length ≤ 1000000 := by
  have := hz.len_le (n := q.length + T.length - 1) (e ▸ (pol_low q).mul (pol_low T))
  omega
theorem bz_len2 {p : Int} {S T q z r : List Int} {n : Nat} (h : S.length ≤ 1 + 513 * n ∧ T.length ≤ 1 + 513 * n ∧ n ≤ 512) (hq : q.length ≤ 513) (hz : Pol p z) (e : pol p z = pol p q * pol p T) (hr : Pol p r) (e2 : pol p r = pol p S - pol p z) : r.length ≤ 1 + 513 * (n + 1) := by
  have h1 := hz.len_le (n := q.length + T.length - 1) (e ▸ (pol_low q).mul (pol_low T))
  exact hr.len_le (e2 ▸ ((pol_low S).mono (by omega)).sub ((pol_low z).mono (by omega)))
/-- a round's end -/
theorem bz_next {p : Int} {c : Ser p} {wb : World} {Js Jt n0 Bb bq : Nat} {pre : List (Nat × BzA p wb)} {i : Nat} {x : BzA p wb} {W w8 : World} {vs vt v8 : Value} {S T z8 : List Int}
    (hI : Boxed W Js 23 vs ∧ Boxed W Jt 23 vt ∧ Ints .u64 W vs S ∧ Ints .u64 W vt T ∧ Pol p T ∧ pol p S = (bz c (pre.map (·.2.1.2))).1 ∧ pol p T = (bz c (pre.map (·.2.1.2))).2 ∧ T.length ≤ 1 + 513 * pre.length ∧ Ext wb W ∧ n0 ≤ W.heap.size)
    (hx : wb.heap.size ≤ Js ∧ wb.heap.size ≤ Jt ∧ Js ≠ Jt ∧ Js ≠ Bb ∧ Jt ≠ Bb ∧ Js ≠ bq ∧ Jt ≠ bq ∧ Bb < n0 ∧ bq < n0) (y8 : Ext W w8) (i8 : Ints .u64 w8 v8 z8) (j8 : Pol p z8) (e8 : pol p z8 = pol p S - pol p x.1.2 * pol p T) (l8 : z8.length ≤ 1 + 513 * (pre.length + 1)) :
    KeepsOthers W ((w8.setCell ⟨Js, 0, none⟩ vt).setCell ⟨Jt, 0, none⟩ v8) ∧ KeepsRow Bb bq W ((w8.setCell ⟨Js, 0, none⟩ vt).setCell ⟨Jt, 0, none⟩ v8) ∧ BzI p c wb Js Jt n0 (pre ++ [(i, x)]) ((w8.setCell ⟨Js, 0, none⟩ vt).setCell ⟨Jt, 0, none⟩ v8) := by
  obtain ⟨h1, h2, h3, h4, h6, h7, h8, h10, h11, h12⟩ := hI
  obtain ⟨x1, x2, x3, x4, x5, x6, x7, x8, x9⟩ := hx
  have b1 := boxed_ext y8 h1
  have b2 := boxed_ext y8 h2
  have hy := y8.size
  refine ⟨((ext_others y8).trans (KeepsOthers.setCell _ _ _)).trans (KeepsOthers.setCell _ _ _), ((ext_row y8 (by omega) (by omega)).trans (set_row _ x4 x6 _)).trans (set_row _ x5 x7 _), vt, v8, T, z8, ?_, ?_, ?_, ?_, h6, j8, ?_, ?_, by simp; omega, by simpa using l8, ((h11.trans y8).setCell x1 _).setCell x2 _, by simp [World.setCell]; omega⟩
  · exact (b1.set vt).kept (grownBy_setCell' _ Jt v8) (fun e => x3 (by injection e))
  · exact (b2.kept (grownBy_setCell' _ Js vt) (fun e => x3 (by injection e with e; exact e.symm))).set v8
  · have h4' := h4.ext y8
    obtain ⟨a3, c3, rfl, _⟩ := h3
    obtain ⟨a4, c4, et, _⟩ := h4
    rw [et] at b2
    exact (h4'.setBox b1 _).setBox (b2.kept (grownBy_setCell' _ Js vt) (fun e => x3 (by injection e with e; exact e.symm))) _
  · obtain ⟨a3, c3, rfl, _⟩ := h3
    obtain ⟨a4, c4, et, _⟩ := h4
    rw [et] at b2
    exact (i8.setBox b1 _).setBox (b2.kept (grownBy_setCell' _ Js vt) (fun e => x3 (by injection e with e; exact e.symm))) _
  · rw [List.map_append, List.map_cons, List.map_nil, bz_snoc]; exact h8
  · rw [List.map_append, List.map_cons, List.map_nil, bz_snoc, e8, h7, h8]

theorem row_slice {w : World} {base n : Nat} {e : TypeId} {v : Value} {l : List Value} (h : w.ownsRow base e 1 v n l) :
    ∃ a cap, v = .slice a n cap ∧ l.length = n ∧ (0 < n → ∃ g off, a = some ⟨g, off, none⟩ ∧ g < w.heap.size ∧ ∀ j (hj : j < l.length), w.cell? ⟨g, off + j, none⟩ = some l[j]) := by
  have hl : l.length = n := by have := h.1; simpa using this
  have h0 := h
  obtain ⟨_, ⟨rfl, h1⟩ | ⟨g, cap, cur, rfl, hg, hb, hc1, hc2, hs, ht⟩⟩ := h
  · exact ⟨none, 0, by rw [show n = 0 by simpa using h1], hl, fun h => by omega⟩
  · refine ⟨_, cap, rfl, hl, fun hp => ⟨g, 0, rfl, Blk.lt (t := e) (cs := cur) hb, fun j hj => ?_⟩⟩
    rw [Nat.zero_add, h0.cellAt j (by omega)]
    simp [hj]

set_option maxRecDepth 100000 in
set_option maxHeartbeats 1000000 in
theorem pBez_nil (p : Int) (v u : Value) (w : World) (hp : rightB p = true) (hF : Fld p) (hv : Ints .u64 w v []) (hu : Ints .u64 w u []) :
    Calls Tryz.prog 34 #[.int .u64 p, v, u] w (RetB p [] [] w) := by
  have hp2 := rightB_true hp
  have ce := hid (euclid_yes p v u [] [] (w.alloc (.cells #[.int .u64 p] 22)) hp hF (hv.alloc _) (hu.alloc _) Pol.nil Pol.nil (by simp))
  clear hp hF hv hu
  go_enter Tryz.func34, Tryz.ntmps34
  go_wp2_with fail
  refine ce.out.mono ?_
  rintro _ w1 ⟨vq, ve, qs, R, rfl, _, _, h1, h2, h3, h4, h5, _, h6⟩
  obtain ⟨s, t, _, _, hst⟩ := Rems.comb h3 qs.length 0 (by omega)
  have hE : R qs.length = [] := (h3.isp _ (by omega)).zero (by rw [hst, h4, show (0 : Nat) + 1 = 1 from rfl, h5, pol_nil, Ser.mul_zero, Ser.mul_zero, Ser.add_zero])
  rw [hE] at h1
  obtain ⟨a, cap, rfl, k1, k2, k3⟩ := h1
  clear h2 h3 h4 h5 hst hE k3
  go_wp2_with fail
  refine bodyPost_ret (results_tmp4 rfl _ _ _) rfl ?_
  refine ⟨_, _, _, [], [], [], rfl, Ints.nil, Ints.nil, Ints.nil, ⟨Pol.nil, fun h => absurd rfl h, ⟨0, Ser.poly_zero, by rw [Ser.zero_mul, pol_nil]⟩, ⟨0, Ser.poly_zero, by rw [Ser.zero_mul, pol_nil]⟩, ⟨0, 0, Ser.poly_zero, Ser.poly_zero, by rw [pol_nil, Ser.zero_mul, Ser.add_zero]⟩⟩, Pol.nil, Pol.nil, by rw [pol_nil, Ser.zero_mul, Ser.add_zero], by simp, by simp, ?_⟩
  exact Ext.trans ((Ext.refl w).alloc _) h6

set_option maxRecDepth 100000 in
set_option maxHeartbeats 2000000 in
theorem pBez_yes1 (p : Int) (v u : Value) (xs ys : List Int) (w : World) (hp : rightB p = true) (hF : Fld p) (hv : Ints .u64 w v xs) (hu : Ints .u64 w u ys) (hx : Pol p xs) (hy : Pol p ys) (hl : xs.length ≤ 512 ∧ ys.length ≤ 512) (h0 : ¬ (xs = [] ∧ ys = [])) :
    Calls Tryz.prog 34 #[.int .u64 p, v, u] w (RetB1 p xs ys w) := by
  have hp2 := rightB_true hp
  have Hp := hid hp; have HF := hid hF; have Hx := hid hx; have Hy := hid hy; have H0 := hid h0
  refine (callsIn_wide (n := 7)).1 ?_
  have f1 : Fence.wide.fn 75 := trivial
  have f2 : Fence.wide.fn 60 := trivial
  have f3 : Fence.wide.fn 76 := trivial
  have f4 : Fence.wide.fn 105 := trivial
  have f5 : Fence.wide.fn 78 := trivial
  have f6 : Fence.wide.fn 77 := trivial
  have ce := hid ((callsIn_wide (n := 6)).2 (euclid_yes p v u xs ys (w.alloc (.cells #[.int .u64 p] 22)) hp hF (hv.alloc _) (hu.alloc _) hx hy hl))
  clear hp hF hx hy h0 hv hu
  refine callsIn_of_wp_marks Tryz.func34 rfl trivial ?_ rfl
  simp only [Tryz.ntmps34, List.size_toArray, List.length_cons, List.length_nil, Nat.reduceAdd, Nat.reduceSub, Array.replicate_succ, Array.replicate_zero, List.push_toArray, List.append_toArray, List.nil_append, List.cons_append]
  gi_wp2_with fail
  refine ce.out.mono ?_
  rintro _ w1 ⟨vq, ve, qs, R, rfl, hown, hqs, h1, h2, h3, h4, h5, h6, h7⟩
  have hE : R qs.length ≠ [] := fun e => by
    have h8 := Rems.dvd h3 h2 qs.length 0 (by omega)
    obtain ⟨⟨a, _, ea⟩, ⟨b, _, eb⟩⟩ := h8
    rw [e, pol_nil, Ser.mul_zero] at ea eb
    rw [h4] at ea
    rw [show (0 : Nat) + 1 = 1 from rfl, h5] at eb
    exact H0.out ⟨Hx.out.zero ea, Hy.out.zero eb⟩
  obtain ⟨E, hEe⟩ : ∃ E, R qs.length = E := ⟨_, rfl⟩
  have hEp : Pol p E := hEe ▸ h3.isp _ (by omega)
  have hEl : E.length ≤ 512 := hEe ▸ h3.len _ (by omega)
  rw [hEe] at h1 hE
  have hEl0 := List.length_pos_iff.2 hE
  have hlr := hEp.lead_range hE
  have hbx : Boxed w1 w.heap.size 22 (.int .u64 p) := boxed_ext h7 (Boxed.new w _ _)
  have hxw : Ext w w1 := Ext.trans ((Ext.refl w).alloc _) h7
  obtain ⟨H, hH⟩ : ∃ H, w.heap.size = H := ⟨_, rfl⟩
  have hsw := hxw.size
  have hs1 := h7.size
  rw [hH] at hbx hsw ⊢
  have hbc := hbx.cell
  have ci := hid ((callsIn_wide (n := 6)).2 (invLast_yes p ve E w1 Hp.out h1 hEl0 (by omega) (HF.out.unit_lead hEp hE)))
  have hinv := minv_range p (lead E) hp2.1
  have hli := HF.out.linv hp2.1 hEp hE
  obtain ⟨inv, hin⟩ : ∃ inv, minv p (lead E) = inv := ⟨_, rfl⟩
  rw [hin] at ci hinv hli
  have HE := hid h1; have HR := hid h3; have HRe := hid h2; have HR0 := hid h4; have HR1 := hid h5; have Hown := hid hown; have Hqs := hid hqs; have HEp := hid hEp; have HEn := hid hE; have HEe := hid hEe; have Hli := hid hli; have Hlr := hid hlr
  have hbl : Ints .u64 w1 ve E := h1
  obtain ⟨ea, ecap, rfl, k1, k2, k3⟩ := hbl
  have b1 : ((E.length : Int) == 0) = false := by rw [beq_eq_false_iff_ne]; omega
  clear h1 h2 h3 h4 h5 hown hqs hEp hE hEe hli hin k3 ce hlr
  gi_wp2_with fail
  refine ci.out.mono ?_
  rintro _ w2 ⟨rfl, x2⟩
  have bp2 := boxed_ext x2 hbx
  have hbc2 := bp2.cell
  gi_wp2_with fail
  obtain ⟨qa, qcap, rfl, hql, hqc⟩ := row_slice (ownsRow_ext Hown.out x2)
  rw [List.length_map] at hql
  refine (backS_in Fence.wide 6 trivial rfl _ _ _ _).mono ?_
  rintro _ _ ⟨rfl, rfl⟩
  obtain ⟨J, hJ⟩ : ∃ J, w2.heap.size = J := ⟨_, rfl⟩
  obtain ⟨wb, hwb⟩ : ∃ wb, w2.alloc (.cells #[.int .u64 inv] 22) = wb := ⟨_, rfl⟩
  have hsb : wb.heap.size = J + 1 := by rw [← hwb, ← hJ]; simp
  have hxb : Ext w2 wb := by rw [← hwb]; exact (Ext.refl w2).alloc _
  have hib : Ints .u64 wb (.slice (some ⟨J, 0, none⟩) 1 1) [inv] := by rw [← hwb, ← hJ]; exact Ints.new1
  rw [hwb, hJ]
  obtain ⟨w3, hw3⟩ : ∃ w3, wb.alloc (.cells #[.slice (some ⟨J, 0, none⟩) 1 1] 23) = w3 := ⟨_, rfl⟩
  have bs3 : Boxed w3 (J + 1) 23 (.slice (some ⟨J, 0, none⟩) 1 1) := by rw [← hw3, ← hsb]; exact Boxed.new wb _ _
  have hs3 : w3.heap.size = J + 1 + 1 := by rw [← hw3]; simp [hsb]
  have hx3 : Ext wb w3 := by rw [← hw3]; exact (Ext.refl wb).alloc _
  rw [hw3]
  obtain ⟨w4, hw4⟩ : ∃ w4, w3.alloc (.cells #[.slice none 0 0] 23) = w4 := ⟨_, rfl⟩
  have bt4 : Boxed w4 (J + 1 + 1) 23 (.slice none 0 0) := by rw [← hw4, ← hs3]; exact Boxed.new w3 _ _
  have hs4 : w4.heap.size = J + 1 + 1 + 1 := by rw [← hw4]; simp [hs3]
  have hx4 : Ext w3 w4 := by rw [← hw4]; exact (Ext.refl w3).alloc _
  rw [hw4]
  gi_wp2_with fail
  obtain ⟨w5, hw5⟩ : ∃ w5, w4.alloc (.cells #[.slice qa qs.length qcap] 96) = w5 := ⟨_, rfl⟩
  rw [hw5]
  have hs5 : w5.heap.size = J + 1 + 1 + 1 + 1 := by rw [← hw5]; simp [hs4]
  have hx5 : Ext w4 w5 := by rw [← hw5]; exact (Ext.refl w4).alloc _
  have bb5 : Boxed w5 (J + 1 + 1 + 1) 96 (.slice qa qs.length qcap) := by rw [← hw5, ← hs4]; exact Boxed.new w4 _ _
  have bs5 := boxed_ext (hx4.trans hx5) bs3
  have bt5 := boxed_ext hx5 bt4
  have hxb5 : Ext wb w5 := (hx3.trans hx4).trans hx5
  have bpb := boxed_ext hxb bp2
  have hHb : H < wb.heap.size := bpb.lt
  have hxw2 : Ext w w2 := hxw.trans x2
  clear hw3 hw4 hw5 hwb bt4 bs3
  have hqs2 : ∀ x ∈ qs, Ints .u64 wb x.1 x.2 ∧ Rng p x.2 ∧ x.2.length ≤ 513 := fun x hx => by
    obtain ⟨i, hi, rfl⟩ := List.mem_iff_getElem.1 hx
    have e : qAt qs i = qs[i].2 := by simp [qAt, List.getD, hi]
    refine ⟨(Hqs.out _ hx).ext (x2.trans hxb), e ▸ (HR.out.quo i hi).rng, ?_⟩
    have h1 := HR.out.qln i hi
    have h2 := HR.out.len i (by omega)
    rw [e] at h1
    omega
  obtain ⟨zs, hzs⟩ : ∃ zs : List (BzA p wb), zs.map (·.1) = qs := ⟨qs.attach.map fun x => ⟨x.1, hqs2 x.1 x.2⟩, by rw [List.map_map]; exact List.attach_map_subtype_val qs⟩
  have hzl : zs.length = qs.length := by rw [← hzs]; simp
  have hJw : w2.heap.size ≤ J := by omega
  obtain ⟨bq, hbq, hbq2⟩ : ∃ bq, (0 < qs.length → ∃ off, qa = some ⟨bq, off, none⟩) ∧ bq < J + 1 := by
    rcases Nat.eq_zero_or_pos qs.length with h | h
    · exact ⟨0, fun h' => by omega, by omega⟩
    · obtain ⟨b, off, e, hb, _⟩ := hqc h
      exact ⟨b, fun _ => ⟨off, e⟩, by omega⟩
  have hst := backS_stops (fun x : BzA p wb => x.1.1) Fence.wide 6 trivial rfl (by omega) (J + 1 + 1 + 1) qs.length qcap qa zs hzl (by omega) w5 (by omega) bb5.cell
    (fun h => by
      obtain ⟨b, off, e, hb, hc⟩ := hqc h
      refine ⟨b, off, e, by omega, fun j hj => ?_⟩
      rw [(hxb.trans hxb5).cells _ _ hb, hc j (by rw [List.length_map]; omega)]
      have h3 : qs[j]? = (zs.map (·.1))[j]? := by rw [hzs]
      rw [List.getElem?_map, List.getElem?_eq_getElem hj, List.getElem?_eq_getElem (show j < qs.length by omega)] at h3
      simp only [Option.map_some, Option.some.injEq] at h3
      simp only [List.getElem_map, h3]) bq hbq
  have hi0 : BzI p (Ser.C p inv) wb (J + 1) (J + 1 + 1) (J + 1 + 1 + 1 + 1) [] w5 := by
    refine ⟨_, _, [inv], [], bs5, bt5, hib.ext hxb5, Ints.nil, Pol.one ?_ hinv.2, Pol.nil, by rw [pol_single]; rfl, by rw [pol_nil]; rfl, by simp, by simp, hxb5, by omega⟩
    rcases Int.lt_or_le 0 inv with h | h
    · exact h
    · have := Hli.out
      rw [show inv = 0 by omega, Int.mul_zero, Int.zero_emod] at this
      omega
  refine wpIn_rangeFunc_ownF rfl (by omega) (gf := 105) (lb := #[.pointer (some ⟨J + 1 + 1 + 1, 0, none⟩)]) rfl trivial (enters_of Tryz.func105 (by kernel_rfl) rfl)
    hst KeepsRow.trans (fun W l o o' hl _ _ _ => KeepsRow.put (n := w5.heap.size) (by omega) (by omega) W l o' hl) (Below.refl _ _) (fun _ => rfl)
    (BzI p (Ser.C p inv) wb (J + 1) (J + 1 + 1) (J + 1 + 1 + 1 + 1))
    (fun _ _ _ => False)
    (bzI_own _ _ _ _ _ _ _ (by omega))
    (fun _ _ _ _ _ hs _ _ => hs)
    hi0
    (fun x' => { tmps := #[.int .u64 p, v, u, .pointer (some ⟨H, 0, none⟩), undef, undef, .slice none 0 0, .slice none 0 0, .slice none 0 0, .int .i64 0, .slice qa qs.length qcap, .slice ea E.length ecap, .int .i64 0, .int .u64 inv, .pointer (some ⟨J + 1, 0, none⟩), .pointer (some ⟨J + 1 + 1, 0, none⟩), undef, x'.2.1.1,
      .tuple #[.slice qa qs.length qcap, .slice ea E.length ecap, .int .i64 0], .int .u64 p, v, u, .tuple #[.slice qa qs.length qcap, .slice ea E.length ecap, .int .i64 0], .slice qa qs.length qcap, .slice ea E.length ecap, .int .i64 0, .int .i64 0, .bool false, .bool false, .slice ea E.length ecap, .int .i64 (E.length : Int), .bool false, .bool false, undef,
      .tuple #[.int .u64 inv, .int .i64 0], .int .u64 p, .slice ea E.length ecap, .tuple #[.int .u64 inv, .int .i64 0], .int .u64 inv, .int .i64 0, .int .i64 0, .bool false, undef, .int .u64 inv, .slice (some ⟨J, 0, none⟩) 1 1, .slice qa qs.length qcap, .func (.func 105) #[] #[.pointer (some ⟨J + 1 + 1 + 1, 0, none⟩)], .int .i64 (x'.1 : Int), x'.2.1.1,
      undef, undef, undef, undef, undef, undef, undef, undef, undef, undef, undef, undef, undef, undef, undef, undef], defers := [] }) ?assign ?body ?done ?stop
  case assign =>
    intro l x' W K hK
    gi_wp2
    exact hK
  case body =>
    rintro l pre ⟨i, ⟨qv, ql⟩, hq1, hq2, hq3⟩ W ⟨vs, vt, S, T, bs, bt, g3, g4, g5, g6, g7, g8, g9, g10, hE, hsW⟩ hlt
    dsimp only at hq1 hq2 hq3 ⊢
    have g3' := g3
    have g4' := g4
    obtain ⟨sa, scap, rfl, sl1, sl2, sl3⟩ := g3'
    obtain ⟨ta, tcap, rfl, tl1, tl2, tl3⟩ := g4'
    clear sl3 tl3
    have hqi := hid hq1; have hqr := hid hq2; have hqr2 := hid hq3
    have HSi := hid g3; have HTi := hid g4; have HSp := hid g5; have HTp := hid g6
    have hln : Hid (ql.length ≤ 1000000 ∧ T.length ≤ 1000000) := hid (by omega)
    have hln2 : Hid (S.length ≤ 1 + 513 * pre.length ∧ T.length ≤ 1 + 513 * pre.length ∧ pre.length ≤ 512) := hid ⟨g9, g10, by omega⟩
    have hI := hid (show _ ∧ _ ∧ _ ∧ _ ∧ _ ∧ _ ∧ _ ∧ _ ∧ _ ∧ _ from ⟨bs, bt, g3, g4, g6, g7, g8, g10, hE, hsW⟩)
    have cs := bs.cell
    have ct := bt.cell
    have hJ1 : wb.heap.size ≤ J + 1 := by omega
    have hJ2 : wb.heap.size ≤ J + 1 + 1 := by omega
    have hx' : wb.heap.size ≤ J + 1 ∧ wb.heap.size ≤ J + 1 + 1 ∧ J + 1 ≠ J + 1 + 1 ∧ J + 1 ≠ J + 1 + 1 + 1 ∧ J + 1 + 1 ≠ J + 1 + 1 + 1 ∧ J + 1 ≠ bq ∧ J + 1 + 1 ≠ bq ∧ J + 1 + 1 + 1 < J + 1 + 1 + 1 + 1 ∧ bq < J + 1 + 1 + 1 + 1 := by omega
    have hmx : Tryz.prog.follows .mixedOrders = true := by kernel_rfl
    have hx0 : Ext W W.drew := (Ext.refl W).drew
    clear g3 g4 g5 g6 g7 g8 g9 g10
    gi_wp2
    refine region_round (fun W' => Ext wb W') hmx (by kernel_rfl) (by rintro ⟨_, _, h⟩; exact h) hE.drew (fun hHeld => ?_)
    refine wpAnyH_take (i := 1) (v := .int .u64 p) rfl (by kernel_rfl) (by kernel_rfl) (by kernel_rfl) (fun _ _ _ h => h) (Or.inl ⟨by rfl, ?_⟩) hHeld ?_
    · intro W' hSw
      have cp' := (hSw.cells H 0 hHb).trans bpb.cell
      go_simp
    refine wpAnyH_take (i := 2) (v := .func (.func 62) #[.int .u64 p] #[]) rfl (by kernel_rfl) (by kernel_rfl) (by kernel_rfl) (fun _ _ _ h => h) (Or.inl ⟨by rfl, ?_⟩) hHeld ?_
    · intro W' hSw
      go_simp
    refine wpAnyH_take (i := 4) (v := .int .u64 p) rfl (by kernel_rfl) (by kernel_rfl) (by kernel_rfl) (fun _ _ _ h => h) (Or.inl ⟨by rfl, ?_⟩) hHeld ?_
    · intro W' hSw
      have cp' := (hSw.cells H 0 hHb).trans bpb.cell
      go_simp
    refine wpAnyH_take (i := 5) (v := qv) rfl (by kernel_rfl) (by kernel_rfl) (by kernel_rfl) (fun _ _ _ h => h) (Or.inl ⟨by rfl, ?_⟩) hHeld ?_
    · intro W' hSw
      go_simp
    refine wpAnyH_ready (rs := [0, 3, 6]) (by kernel_rfl) (by simp) ?_
    refine AllReadyH.cons rfl (fun K hK => ?_) ?_
    · go_simp
      refine hK.out _ _ hHeld (fun hHeld => ?_)
      clear hK K
      refine wpAnyH_ready (rs := [3, 6]) (by kernel_rfl) (by simp) ?_
      refine AllReadyH.cons rfl (fun K hK => ?_) ?_
      · go_simp
        refine hK.out _ _ hHeld (fun hHeld => ?_)
        clear hK K
        refine held_step 6 (by kernel_rfl) rfl (fun K hK => ?_)
        go_simp
        refine hK.out _ _ hHeld (fun hHeld => ?_)
        clear hK K
        refine held_step 7 (by kernel_rfl) rfl (fun K hK => ?_)
        go_simp
        go_wp2_with fail
        refine (product_any p qv _ ql T _ Hp.out (hqi.out.ext hHeld) (HTi.out.ext hx0) hqr.out HTp.out.rng hln.out).mono ?_
        rintro _ w6 ⟨v6, zs6, rfl, i6, j6, e6, x6⟩
        have y6 : Ext W w6 := hx0.trans x6
        have bs6 := boxed_ext y6 bs
        have bt6 := boxed_ext y6 bt
        have cs6 := bs6.cell
        have ct6 := bt6.cell
        have I6 := hid i6; have J6 := hid j6; have E6 := hid e6
        clear i6 j6 e6
        go_wp2_with fail
        refine hK.out _ _ (hE.trans y6) (fun hHeld => ?_)
        clear hK K
        refine held_step 8 (by kernel_rfl) rfl (fun K hK => ?_)
        go_simp
        go_wp2_with fail
        refine (joined_minus p _ v6 S zs6 _ Hp.out (HSi.out.ext y6) I6.out HSp.out.rng J6.out.rng (bz_len hln2.out hqr2.out J6.out E6.out)).mono ?_
        rintro _ w8 ⟨v8, zs8, rfl, i8, j8, e8, x8⟩
        have y8 : Ext W w8 := y6.trans x8
        have bs8 := boxed_ext y8 bs
        have bt8 := boxed_ext y8 bt
        have cs8 := bs8.cell
        have ct8 := bt8.cell
        have fs8 := bs8.frozen
        have ft8 := bt8.frozen
        have hfin := hid (bz_next (i := i) (x := ⟨(qv, ql), hq1, hq2, hq3⟩) hI.out hx' y8 i8 j8 (by rw [e8, E6.out]) (bz_len2 hln2.out hqr2.out J6.out E6.out j8 e8))
        obtain ⟨ua, uc, rfl, um1, um2, um3⟩ := i8
        clear j8 e8 um3
        go_wp2_with fail
        refine hK.out _ _ (hE.trans y8) (fun hHeld => ?_)
        clear hK K
        refine held_step 9 (by kernel_rfl) rfl (fun K hK => ?_)
        go_simp
        have ct9 : (w8.setCell ⟨J + 1, 0, none⟩ (.slice ta T.length tcap)).cell? ⟨J + 1 + 1, 0, none⟩ = some (.slice ta T.length tcap) := (World.cell?_setCell_other _ _ _ _ (by simp)).trans ct8
        refine hK.out _ _ (Ext.setCell (p := ⟨J + 1, 0, none⟩) (hE.trans y8) hJ1 _) (fun hHeld => ?_)
        clear hK K
        refine held_step 10 (by kernel_rfl) rfl (fun K hK => ?_)
        go_simp
        refine hK.out _ _ (Ext.setCell (p := ⟨J + 1 + 1, 0, none⟩) (Ext.setCell (p := ⟨J + 1, 0, none⟩) (hE.trans y8) hJ1 _) hJ2 _) (fun hHeld => ?_)
        clear hK K
        refine wpAnyH_done (by kernel_rfl) ?_ _
        exact hfin.out
      refine AllReadyH.cons rfl (fun K hK => ?_) ?_
      · go_simp
        refine hK.out _ _ hHeld (fun hHeld => ?_)
        clear hK K
        refine wpAnyH_ready (rs := [3, 7]) (by kernel_rfl) (by simp) ?_
        refine AllReadyH.cons rfl (fun K hK => ?_) ?_
        · go_simp
          refine hK.out _ _ hHeld (fun hHeld => ?_)
          clear hK K
          refine held_step 7 (by kernel_rfl) rfl (fun K hK => ?_)
          go_simp
          go_wp2_with fail
          refine (product_any p qv _ ql T _ Hp.out (hqi.out.ext hHeld) (HTi.out.ext hx0) hqr.out HTp.out.rng hln.out).mono ?_
          rintro _ w6 ⟨v6, zs6, rfl, i6, j6, e6, x6⟩
          have y6 : Ext W w6 := hx0.trans x6
          have bs6 := boxed_ext y6 bs
          have bt6 := boxed_ext y6 bt
          have cs6 := bs6.cell
          have ct6 := bt6.cell
          have I6 := hid i6; have J6 := hid j6; have E6 := hid e6
          clear i6 j6 e6
          go_wp2_with fail
          refine hK.out _ _ (hE.trans y6) (fun hHeld => ?_)
          clear hK K
          refine held_step 8 (by kernel_rfl) rfl (fun K hK => ?_)
          go_simp
          go_wp2_with fail
          refine (joined_minus p _ v6 S zs6 _ Hp.out (HSi.out.ext y6) I6.out HSp.out.rng J6.out.rng (bz_len hln2.out hqr2.out J6.out E6.out)).mono ?_
          rintro _ w8 ⟨v8, zs8, rfl, i8, j8, e8, x8⟩
          have y8 : Ext W w8 := y6.trans x8
          have bs8 := boxed_ext y8 bs
          have bt8 := boxed_ext y8 bt
          have cs8 := bs8.cell
          have ct8 := bt8.cell
          have fs8 := bs8.frozen
          have ft8 := bt8.frozen
          have hfin := hid (bz_next (i := i) (x := ⟨(qv, ql), hq1, hq2, hq3⟩) hI.out hx' y8 i8 j8 (by rw [e8, E6.out]) (bz_len2 hln2.out hqr2.out J6.out E6.out j8 e8))
          obtain ⟨ua, uc, rfl, um1, um2, um3⟩ := i8
          clear j8 e8 um3
          go_wp2_with fail
          refine hK.out _ _ (hE.trans y8) (fun hHeld => ?_)
          clear hK K
          refine held_step 9 (by kernel_rfl) rfl (fun K hK => ?_)
          go_simp
          have ct9 : (w8.setCell ⟨J + 1, 0, none⟩ (.slice ta T.length tcap)).cell? ⟨J + 1 + 1, 0, none⟩ = some (.slice ta T.length tcap) := (World.cell?_setCell_other _ _ _ _ (by simp)).trans ct8
          refine hK.out _ _ (Ext.setCell (p := ⟨J + 1, 0, none⟩) (hE.trans y8) hJ1 _) (fun hHeld => ?_)
          clear hK K
          refine held_step 10 (by kernel_rfl) rfl (fun K hK => ?_)
          go_simp
          refine hK.out _ _ (Ext.setCell (p := ⟨J + 1 + 1, 0, none⟩) (Ext.setCell (p := ⟨J + 1, 0, none⟩) (hE.trans y8) hJ1 _) hJ2 _) (fun hHeld => ?_)
          clear hK K
          refine wpAnyH_done (by kernel_rfl) ?_ _
          exact hfin.out
        refine AllReadyH.cons rfl (fun K hK => ?_) ?_
        · go_simp
          go_wp2_with fail
          refine (product_any p qv _ ql T _ Hp.out (hqi.out.ext hHeld) (HTi.out.ext hx0) hqr.out HTp.out.rng hln.out).mono ?_
          rintro _ w6 ⟨v6, zs6, rfl, i6, j6, e6, x6⟩
          have y6 : Ext W w6 := hx0.trans x6
          have bs6 := boxed_ext y6 bs
          have bt6 := boxed_ext y6 bt
          have cs6 := bs6.cell
          have ct6 := bt6.cell
          have I6 := hid i6; have J6 := hid j6; have E6 := hid e6
          clear i6 j6 e6
          go_wp2_with fail
          refine hK.out _ _ (hE.trans y6) (fun hHeld => ?_)
          clear hK K
          refine held_step 3 (by kernel_rfl) rfl (fun K hK => ?_)
          go_simp
          refine hK.out _ _ hHeld (fun hHeld => ?_)
          clear hK K
          refine held_step 8 (by kernel_rfl) rfl (fun K hK => ?_)
          go_simp
          go_wp2_with fail
          refine (joined_minus p _ v6 S zs6 _ Hp.out (HSi.out.ext y6) I6.out HSp.out.rng J6.out.rng (bz_len hln2.out hqr2.out J6.out E6.out)).mono ?_
          rintro _ w8 ⟨v8, zs8, rfl, i8, j8, e8, x8⟩
          have y8 : Ext W w8 := y6.trans x8
          have bs8 := boxed_ext y8 bs
          have bt8 := boxed_ext y8 bt
          have cs8 := bs8.cell
          have ct8 := bt8.cell
          have fs8 := bs8.frozen
          have ft8 := bt8.frozen
          have hfin := hid (bz_next (i := i) (x := ⟨(qv, ql), hq1, hq2, hq3⟩) hI.out hx' y8 i8 j8 (by rw [e8, E6.out]) (bz_len2 hln2.out hqr2.out J6.out E6.out j8 e8))
          obtain ⟨ua, uc, rfl, um1, um2, um3⟩ := i8
          clear j8 e8 um3
          go_wp2_with fail
          refine hK.out _ _ (hE.trans y8) (fun hHeld => ?_)
          clear hK K
          refine held_step 9 (by kernel_rfl) rfl (fun K hK => ?_)
          go_simp
          have ct9 : (w8.setCell ⟨J + 1, 0, none⟩ (.slice ta T.length tcap)).cell? ⟨J + 1 + 1, 0, none⟩ = some (.slice ta T.length tcap) := (World.cell?_setCell_other _ _ _ _ (by simp)).trans ct8
          refine hK.out _ _ (Ext.setCell (p := ⟨J + 1, 0, none⟩) (hE.trans y8) hJ1 _) (fun hHeld => ?_)
          clear hK K
          refine held_step 10 (by kernel_rfl) rfl (fun K hK => ?_)
          go_simp
          refine hK.out _ _ (Ext.setCell (p := ⟨J + 1 + 1, 0, none⟩) (Ext.setCell (p := ⟨J + 1, 0, none⟩) (hE.trans y8) hJ1 _) hJ2 _) (fun hHeld => ?_)
          clear hK K
          refine wpAnyH_done (by kernel_rfl) ?_ _
          exact hfin.out
        exact AllReadyH.nil
      exact AllReadyH.nil
    refine AllReadyH.cons rfl (fun K hK => ?_) ?_
    · go_simp
      refine hK.out _ _ hHeld (fun hHeld => ?_)
      clear hK K
      refine wpAnyH_ready (rs := [0, 6]) (by kernel_rfl) (by simp) ?_
      refine AllReadyH.cons rfl (fun K hK => ?_) ?_
      · go_simp
        refine hK.out _ _ hHeld (fun hHeld => ?_)
        clear hK K
        refine held_step 6 (by kernel_rfl) rfl (fun K hK => ?_)
        go_simp
        refine hK.out _ _ hHeld (fun hHeld => ?_)
        clear hK K
        refine held_step 7 (by kernel_rfl) rfl (fun K hK => ?_)
        go_simp
        go_wp2_with fail
        refine (product_any p qv _ ql T _ Hp.out (hqi.out.ext hHeld) (HTi.out.ext hx0) hqr.out HTp.out.rng hln.out).mono ?_
        rintro _ w6 ⟨v6, zs6, rfl, i6, j6, e6, x6⟩
        have y6 : Ext W w6 := hx0.trans x6
        have bs6 := boxed_ext y6 bs
        have bt6 := boxed_ext y6 bt
        have cs6 := bs6.cell
        have ct6 := bt6.cell
        have I6 := hid i6; have J6 := hid j6; have E6 := hid e6
        clear i6 j6 e6
        go_wp2_with fail
        refine hK.out _ _ (hE.trans y6) (fun hHeld => ?_)
        clear hK K
        refine held_step 8 (by kernel_rfl) rfl (fun K hK => ?_)
        go_simp
        go_wp2_with fail
        refine (joined_minus p _ v6 S zs6 _ Hp.out (HSi.out.ext y6) I6.out HSp.out.rng J6.out.rng (bz_len hln2.out hqr2.out J6.out E6.out)).mono ?_
        rintro _ w8 ⟨v8, zs8, rfl, i8, j8, e8, x8⟩
        have y8 : Ext W w8 := y6.trans x8
        have bs8 := boxed_ext y8 bs
        have bt8 := boxed_ext y8 bt
        have cs8 := bs8.cell
        have ct8 := bt8.cell
        have fs8 := bs8.frozen
        have ft8 := bt8.frozen
        have hfin := hid (bz_next (i := i) (x := ⟨(qv, ql), hq1, hq2, hq3⟩) hI.out hx' y8 i8 j8 (by rw [e8, E6.out]) (bz_len2 hln2.out hqr2.out J6.out E6.out j8 e8))
        obtain ⟨ua, uc, rfl, um1, um2, um3⟩ := i8
        clear j8 e8 um3
        go_wp2_with fail
        refine hK.out _ _ (hE.trans y8) (fun hHeld => ?_)
        clear hK K
        refine held_step 9 (by kernel_rfl) rfl (fun K hK => ?_)
        go_simp
        have ct9 : (w8.setCell ⟨J + 1, 0, none⟩ (.slice ta T.length tcap)).cell? ⟨J + 1 + 1, 0, none⟩ = some (.slice ta T.length tcap) := (World.cell?_setCell_other _ _ _ _ (by simp)).trans ct8
        refine hK.out _ _ (Ext.setCell (p := ⟨J + 1, 0, none⟩) (hE.trans y8) hJ1 _) (fun hHeld => ?_)
        clear hK K
        refine held_step 10 (by kernel_rfl) rfl (fun K hK => ?_)
        go_simp
        refine hK.out _ _ (Ext.setCell (p := ⟨J + 1 + 1, 0, none⟩) (Ext.setCell (p := ⟨J + 1, 0, none⟩) (hE.trans y8) hJ1 _) hJ2 _) (fun hHeld => ?_)
        clear hK K
        refine wpAnyH_done (by kernel_rfl) ?_ _
        exact hfin.out
      refine AllReadyH.cons rfl (fun K hK => ?_) ?_
      · go_simp
        refine hK.out _ _ hHeld (fun hHeld => ?_)
        clear hK K
        refine wpAnyH_ready (rs := [0, 7]) (by kernel_rfl) (by simp) ?_
        refine AllReadyH.cons rfl (fun K hK => ?_) ?_
        · go_simp
          refine hK.out _ _ hHeld (fun hHeld => ?_)
          clear hK K
          refine held_step 7 (by kernel_rfl) rfl (fun K hK => ?_)
          go_simp
          go_wp2_with fail
          refine (product_any p qv _ ql T _ Hp.out (hqi.out.ext hHeld) (HTi.out.ext hx0) hqr.out HTp.out.rng hln.out).mono ?_
          rintro _ w6 ⟨v6, zs6, rfl, i6, j6, e6, x6⟩
          have y6 : Ext W w6 := hx0.trans x6
          have bs6 := boxed_ext y6 bs
          have bt6 := boxed_ext y6 bt
          have cs6 := bs6.cell
          have ct6 := bt6.cell
          have I6 := hid i6; have J6 := hid j6; have E6 := hid e6
          clear i6 j6 e6
          go_wp2_with fail
          refine hK.out _ _ (hE.trans y6) (fun hHeld => ?_)
          clear hK K
          refine held_step 8 (by kernel_rfl) rfl (fun K hK => ?_)
          go_simp
          go_wp2_with fail
          refine (joined_minus p _ v6 S zs6 _ Hp.out (HSi.out.ext y6) I6.out HSp.out.rng J6.out.rng (bz_len hln2.out hqr2.out J6.out E6.out)).mono ?_
          rintro _ w8 ⟨v8, zs8, rfl, i8, j8, e8, x8⟩
          have y8 : Ext W w8 := y6.trans x8
          have bs8 := boxed_ext y8 bs
          have bt8 := boxed_ext y8 bt
          have cs8 := bs8.cell
          have ct8 := bt8.cell
          have fs8 := bs8.frozen
          have ft8 := bt8.frozen
          have hfin := hid (bz_next (i := i) (x := ⟨(qv, ql), hq1, hq2, hq3⟩) hI.out hx' y8 i8 j8 (by rw [e8, E6.out]) (bz_len2 hln2.out hqr2.out J6.out E6.out j8 e8))
          obtain ⟨ua, uc, rfl, um1, um2, um3⟩ := i8
          clear j8 e8 um3
          go_wp2_with fail
          refine hK.out _ _ (hE.trans y8) (fun hHeld => ?_)
          clear hK K
          refine held_step 9 (by kernel_rfl) rfl (fun K hK => ?_)
          go_simp
          have ct9 : (w8.setCell ⟨J + 1, 0, none⟩ (.slice ta T.length tcap)).cell? ⟨J + 1 + 1, 0, none⟩ = some (.slice ta T.length tcap) := (World.cell?_setCell_other _ _ _ _ (by simp)).trans ct8
          refine hK.out _ _ (Ext.setCell (p := ⟨J + 1, 0, none⟩) (hE.trans y8) hJ1 _) (fun hHeld => ?_)
          clear hK K
          refine held_step 10 (by kernel_rfl) rfl (fun K hK => ?_)
          go_simp
          refine hK.out _ _ (Ext.setCell (p := ⟨J + 1 + 1, 0, none⟩) (Ext.setCell (p := ⟨J + 1, 0, none⟩) (hE.trans y8) hJ1 _) hJ2 _) (fun hHeld => ?_)
          clear hK K
          refine wpAnyH_done (by kernel_rfl) ?_ _
          exact hfin.out
        refine AllReadyH.cons rfl (fun K hK => ?_) ?_
        · go_simp
          go_wp2_with fail
          refine (product_any p qv _ ql T _ Hp.out (hqi.out.ext hHeld) (HTi.out.ext hx0) hqr.out HTp.out.rng hln.out).mono ?_
          rintro _ w6 ⟨v6, zs6, rfl, i6, j6, e6, x6⟩
          have y6 : Ext W w6 := hx0.trans x6
          have bs6 := boxed_ext y6 bs
          have bt6 := boxed_ext y6 bt
          have cs6 := bs6.cell
          have ct6 := bt6.cell
          have I6 := hid i6; have J6 := hid j6; have E6 := hid e6
          clear i6 j6 e6
          go_wp2_with fail
          refine hK.out _ _ (hE.trans y6) (fun hHeld => ?_)
          clear hK K
          refine wpAnyH_ready (rs := [0, 8]) (by kernel_rfl) (by simp) ?_
          refine AllReadyH.cons rfl (fun K hK => ?_) ?_
          · go_simp
            refine hK.out _ _ hHeld (fun hHeld => ?_)
            clear hK K
            refine held_step 8 (by kernel_rfl) rfl (fun K hK => ?_)
            go_simp
            go_wp2_with fail
            refine (joined_minus p _ v6 S zs6 _ Hp.out (HSi.out.ext y6) I6.out HSp.out.rng J6.out.rng (bz_len hln2.out hqr2.out J6.out E6.out)).mono ?_
            rintro _ w8 ⟨v8, zs8, rfl, i8, j8, e8, x8⟩
            have y8 : Ext W w8 := y6.trans x8
            have bs8 := boxed_ext y8 bs
            have bt8 := boxed_ext y8 bt
            have cs8 := bs8.cell
            have ct8 := bt8.cell
            have fs8 := bs8.frozen
            have ft8 := bt8.frozen
            have hfin := hid (bz_next (i := i) (x := ⟨(qv, ql), hq1, hq2, hq3⟩) hI.out hx' y8 i8 j8 (by rw [e8, E6.out]) (bz_len2 hln2.out hqr2.out J6.out E6.out j8 e8))
            obtain ⟨ua, uc, rfl, um1, um2, um3⟩ := i8
            clear j8 e8 um3
            go_wp2_with fail
            refine hK.out _ _ (hE.trans y8) (fun hHeld => ?_)
            clear hK K
            refine held_step 9 (by kernel_rfl) rfl (fun K hK => ?_)
            go_simp
            have ct9 : (w8.setCell ⟨J + 1, 0, none⟩ (.slice ta T.length tcap)).cell? ⟨J + 1 + 1, 0, none⟩ = some (.slice ta T.length tcap) := (World.cell?_setCell_other _ _ _ _ (by simp)).trans ct8
            refine hK.out _ _ (Ext.setCell (p := ⟨J + 1, 0, none⟩) (hE.trans y8) hJ1 _) (fun hHeld => ?_)
            clear hK K
            refine held_step 10 (by kernel_rfl) rfl (fun K hK => ?_)
            go_simp
            refine hK.out _ _ (Ext.setCell (p := ⟨J + 1 + 1, 0, none⟩) (Ext.setCell (p := ⟨J + 1, 0, none⟩) (hE.trans y8) hJ1 _) hJ2 _) (fun hHeld => ?_)
            clear hK K
            refine wpAnyH_done (by kernel_rfl) ?_ _
            exact hfin.out
          refine AllReadyH.cons rfl (fun K hK => ?_) ?_
          · go_simp
            go_wp2_with fail
            refine (joined_minus p _ v6 S zs6 _ Hp.out (HSi.out.ext y6) I6.out HSp.out.rng J6.out.rng (bz_len hln2.out hqr2.out J6.out E6.out)).mono ?_
            rintro _ w8 ⟨v8, zs8, rfl, i8, j8, e8, x8⟩
            have y8 : Ext W w8 := y6.trans x8
            have bs8 := boxed_ext y8 bs
            have bt8 := boxed_ext y8 bt
            have cs8 := bs8.cell
            have ct8 := bt8.cell
            have fs8 := bs8.frozen
            have ft8 := bt8.frozen
            have hfin := hid (bz_next (i := i) (x := ⟨(qv, ql), hq1, hq2, hq3⟩) hI.out hx' y8 i8 j8 (by rw [e8, E6.out]) (bz_len2 hln2.out hqr2.out J6.out E6.out j8 e8))
            obtain ⟨ua, uc, rfl, um1, um2, um3⟩ := i8
            clear j8 e8 um3
            go_wp2_with fail
            refine hK.out _ _ (hE.trans y8) (fun hHeld => ?_)
            clear hK K
            refine held_step 0 (by kernel_rfl) rfl (fun K hK => ?_)
            go_simp
            refine hK.out _ _ hHeld (fun hHeld => ?_)
            clear hK K
            refine held_step 9 (by kernel_rfl) rfl (fun K hK => ?_)
            go_simp
            have ct9 : (w8.setCell ⟨J + 1, 0, none⟩ (.slice ta T.length tcap)).cell? ⟨J + 1 + 1, 0, none⟩ = some (.slice ta T.length tcap) := (World.cell?_setCell_other _ _ _ _ (by simp)).trans ct8
            refine hK.out _ _ (Ext.setCell (p := ⟨J + 1, 0, none⟩) (hE.trans y8) hJ1 _) (fun hHeld => ?_)
            clear hK K
            refine held_step 10 (by kernel_rfl) rfl (fun K hK => ?_)
            go_simp
            refine hK.out _ _ (Ext.setCell (p := ⟨J + 1 + 1, 0, none⟩) (Ext.setCell (p := ⟨J + 1, 0, none⟩) (hE.trans y8) hJ1 _) hJ2 _) (fun hHeld => ?_)
            clear hK K
            refine wpAnyH_done (by kernel_rfl) ?_ _
            exact hfin.out
          exact AllReadyH.nil
        exact AllReadyH.nil
      exact AllReadyH.nil
    refine AllReadyH.cons rfl (fun K hK => ?_) ?_
    · go_simp
      refine hK.out _ _ hHeld (fun hHeld => ?_)
      clear hK K
      refine wpAnyH_ready (rs := [0, 3, 7]) (by kernel_rfl) (by simp) ?_
      refine AllReadyH.cons rfl (fun K hK => ?_) ?_
      · go_simp
        refine hK.out _ _ hHeld (fun hHeld => ?_)
        clear hK K
        refine wpAnyH_ready (rs := [3, 7]) (by kernel_rfl) (by simp) ?_
        refine AllReadyH.cons rfl (fun K hK => ?_) ?_
        · go_simp
          refine hK.out _ _ hHeld (fun hHeld => ?_)
          clear hK K
          refine held_step 7 (by kernel_rfl) rfl (fun K hK => ?_)
          go_simp
          go_wp2_with fail
          refine (product_any p qv _ ql T _ Hp.out (hqi.out.ext hHeld) (HTi.out.ext hx0) hqr.out HTp.out.rng hln.out).mono ?_
          rintro _ w6 ⟨v6, zs6, rfl, i6, j6, e6, x6⟩
          have y6 : Ext W w6 := hx0.trans x6
          have bs6 := boxed_ext y6 bs
          have bt6 := boxed_ext y6 bt
          have cs6 := bs6.cell
          have ct6 := bt6.cell
          have I6 := hid i6; have J6 := hid j6; have E6 := hid e6
          clear i6 j6 e6
          go_wp2_with fail
          refine hK.out _ _ (hE.trans y6) (fun hHeld => ?_)
          clear hK K
          refine held_step 8 (by kernel_rfl) rfl (fun K hK => ?_)
          go_simp
          go_wp2_with fail
          refine (joined_minus p _ v6 S zs6 _ Hp.out (HSi.out.ext y6) I6.out HSp.out.rng J6.out.rng (bz_len hln2.out hqr2.out J6.out E6.out)).mono ?_
          rintro _ w8 ⟨v8, zs8, rfl, i8, j8, e8, x8⟩
          have y8 : Ext W w8 := y6.trans x8
          have bs8 := boxed_ext y8 bs
          have bt8 := boxed_ext y8 bt
          have cs8 := bs8.cell
          have ct8 := bt8.cell
          have fs8 := bs8.frozen
          have ft8 := bt8.frozen
          have hfin := hid (bz_next (i := i) (x := ⟨(qv, ql), hq1, hq2, hq3⟩) hI.out hx' y8 i8 j8 (by rw [e8, E6.out]) (bz_len2 hln2.out hqr2.out J6.out E6.out j8 e8))
          obtain ⟨ua, uc, rfl, um1, um2, um3⟩ := i8
          clear j8 e8 um3
          go_wp2_with fail
          refine hK.out _ _ (hE.trans y8) (fun hHeld => ?_)
          clear hK K
          refine held_step 9 (by kernel_rfl) rfl (fun K hK => ?_)
          go_simp
          have ct9 : (w8.setCell ⟨J + 1, 0, none⟩ (.slice ta T.length tcap)).cell? ⟨J + 1 + 1, 0, none⟩ = some (.slice ta T.length tcap) := (World.cell?_setCell_other _ _ _ _ (by simp)).trans ct8
          refine hK.out _ _ (Ext.setCell (p := ⟨J + 1, 0, none⟩) (hE.trans y8) hJ1 _) (fun hHeld => ?_)
          clear hK K
          refine held_step 10 (by kernel_rfl) rfl (fun K hK => ?_)
          go_simp
          refine hK.out _ _ (Ext.setCell (p := ⟨J + 1 + 1, 0, none⟩) (Ext.setCell (p := ⟨J + 1, 0, none⟩) (hE.trans y8) hJ1 _) hJ2 _) (fun hHeld => ?_)
          clear hK K
          refine wpAnyH_done (by kernel_rfl) ?_ _
          exact hfin.out
        refine AllReadyH.cons rfl (fun K hK => ?_) ?_
        · go_simp
          go_wp2_with fail
          refine (product_any p qv _ ql T _ Hp.out (hqi.out.ext hHeld) (HTi.out.ext hx0) hqr.out HTp.out.rng hln.out).mono ?_
          rintro _ w6 ⟨v6, zs6, rfl, i6, j6, e6, x6⟩
          have y6 : Ext W w6 := hx0.trans x6
          have bs6 := boxed_ext y6 bs
          have bt6 := boxed_ext y6 bt
          have cs6 := bs6.cell
          have ct6 := bt6.cell
          have I6 := hid i6; have J6 := hid j6; have E6 := hid e6
          clear i6 j6 e6
          go_wp2_with fail
          refine hK.out _ _ (hE.trans y6) (fun hHeld => ?_)
          clear hK K
          refine held_step 3 (by kernel_rfl) rfl (fun K hK => ?_)
          go_simp
          refine hK.out _ _ hHeld (fun hHeld => ?_)
          clear hK K
          refine held_step 8 (by kernel_rfl) rfl (fun K hK => ?_)
          go_simp
          go_wp2_with fail
          refine (joined_minus p _ v6 S zs6 _ Hp.out (HSi.out.ext y6) I6.out HSp.out.rng J6.out.rng (bz_len hln2.out hqr2.out J6.out E6.out)).mono ?_
          rintro _ w8 ⟨v8, zs8, rfl, i8, j8, e8, x8⟩
          have y8 : Ext W w8 := y6.trans x8
          have bs8 := boxed_ext y8 bs
          have bt8 := boxed_ext y8 bt
          have cs8 := bs8.cell
          have ct8 := bt8.cell
          have fs8 := bs8.frozen
          have ft8 := bt8.frozen
          have hfin := hid (bz_next (i := i) (x := ⟨(qv, ql), hq1, hq2, hq3⟩) hI.out hx' y8 i8 j8 (by rw [e8, E6.out]) (bz_len2 hln2.out hqr2.out J6.out E6.out j8 e8))
          obtain ⟨ua, uc, rfl, um1, um2, um3⟩ := i8
          clear j8 e8 um3
          go_wp2_with fail
          refine hK.out _ _ (hE.trans y8) (fun hHeld => ?_)
          clear hK K
          refine held_step 9 (by kernel_rfl) rfl (fun K hK => ?_)
          go_simp
          have ct9 : (w8.setCell ⟨J + 1, 0, none⟩ (.slice ta T.length tcap)).cell? ⟨J + 1 + 1, 0, none⟩ = some (.slice ta T.length tcap) := (World.cell?_setCell_other _ _ _ _ (by simp)).trans ct8
          refine hK.out _ _ (Ext.setCell (p := ⟨J + 1, 0, none⟩) (hE.trans y8) hJ1 _) (fun hHeld => ?_)
          clear hK K
          refine held_step 10 (by kernel_rfl) rfl (fun K hK => ?_)
          go_simp
          refine hK.out _ _ (Ext.setCell (p := ⟨J + 1 + 1, 0, none⟩) (Ext.setCell (p := ⟨J + 1, 0, none⟩) (hE.trans y8) hJ1 _) hJ2 _) (fun hHeld => ?_)
          clear hK K
          refine wpAnyH_done (by kernel_rfl) ?_ _
          exact hfin.out
        exact AllReadyH.nil
      refine AllReadyH.cons rfl (fun K hK => ?_) ?_
      · go_simp
        refine hK.out _ _ hHeld (fun hHeld => ?_)
        clear hK K
        refine wpAnyH_ready (rs := [0, 7]) (by kernel_rfl) (by simp) ?_
        refine AllReadyH.cons rfl (fun K hK => ?_) ?_
        · go_simp
          refine hK.out _ _ hHeld (fun hHeld => ?_)
          clear hK K
          refine held_step 7 (by kernel_rfl) rfl (fun K hK => ?_)
          go_simp
          go_wp2_with fail
          refine (product_any p qv _ ql T _ Hp.out (hqi.out.ext hHeld) (HTi.out.ext hx0) hqr.out HTp.out.rng hln.out).mono ?_
          rintro _ w6 ⟨v6, zs6, rfl, i6, j6, e6, x6⟩
          have y6 : Ext W w6 := hx0.trans x6
          have bs6 := boxed_ext y6 bs
          have bt6 := boxed_ext y6 bt
          have cs6 := bs6.cell
          have ct6 := bt6.cell
          have I6 := hid i6; have J6 := hid j6; have E6 := hid e6
          clear i6 j6 e6
          go_wp2_with fail
          refine hK.out _ _ (hE.trans y6) (fun hHeld => ?_)
          clear hK K
          refine held_step 8 (by kernel_rfl) rfl (fun K hK => ?_)
          go_simp
          go_wp2_with fail
          refine (joined_minus p _ v6 S zs6 _ Hp.out (HSi.out.ext y6) I6.out HSp.out.rng J6.out.rng (bz_len hln2.out hqr2.out J6.out E6.out)).mono ?_
          rintro _ w8 ⟨v8, zs8, rfl, i8, j8, e8, x8⟩
          have y8 : Ext W w8 := y6.trans x8
          have bs8 := boxed_ext y8 bs
          have bt8 := boxed_ext y8 bt
          have cs8 := bs8.cell
          have ct8 := bt8.cell
          have fs8 := bs8.frozen
          have ft8 := bt8.frozen
          have hfin := hid (bz_next (i := i) (x := ⟨(qv, ql), hq1, hq2, hq3⟩) hI.out hx' y8 i8 j8 (by rw [e8, E6.out]) (bz_len2 hln2.out hqr2.out J6.out E6.out j8 e8))
          obtain ⟨ua, uc, rfl, um1, um2, um3⟩ := i8
          clear j8 e8 um3
          go_wp2_with fail
          refine hK.out _ _ (hE.trans y8) (fun hHeld => ?_)
          clear hK K
          refine held_step 9 (by kernel_rfl) rfl (fun K hK => ?_)
          go_simp
          have ct9 : (w8.setCell ⟨J + 1, 0, none⟩ (.slice ta T.length tcap)).cell? ⟨J + 1 + 1, 0, none⟩ = some (.slice ta T.length tcap) := (World.cell?_setCell_other _ _ _ _ (by simp)).trans ct8
          refine hK.out _ _ (Ext.setCell (p := ⟨J + 1, 0, none⟩) (hE.trans y8) hJ1 _) (fun hHeld => ?_)
          clear hK K
          refine held_step 10 (by kernel_rfl) rfl (fun K hK => ?_)
          go_simp
          refine hK.out _ _ (Ext.setCell (p := ⟨J + 1 + 1, 0, none⟩) (Ext.setCell (p := ⟨J + 1, 0, none⟩) (hE.trans y8) hJ1 _) hJ2 _) (fun hHeld => ?_)
          clear hK K
          refine wpAnyH_done (by kernel_rfl) ?_ _
          exact hfin.out
        refine AllReadyH.cons rfl (fun K hK => ?_) ?_
        · go_simp
          go_wp2_with fail
          refine (product_any p qv _ ql T _ Hp.out (hqi.out.ext hHeld) (HTi.out.ext hx0) hqr.out HTp.out.rng hln.out).mono ?_
          rintro _ w6 ⟨v6, zs6, rfl, i6, j6, e6, x6⟩
          have y6 : Ext W w6 := hx0.trans x6
          have bs6 := boxed_ext y6 bs
          have bt6 := boxed_ext y6 bt
          have cs6 := bs6.cell
          have ct6 := bt6.cell
          have I6 := hid i6; have J6 := hid j6; have E6 := hid e6
          clear i6 j6 e6
          go_wp2_with fail
          refine hK.out _ _ (hE.trans y6) (fun hHeld => ?_)
          clear hK K
          refine wpAnyH_ready (rs := [0, 8]) (by kernel_rfl) (by simp) ?_
          refine AllReadyH.cons rfl (fun K hK => ?_) ?_
          · go_simp
            refine hK.out _ _ hHeld (fun hHeld => ?_)
            clear hK K
            refine held_step 8 (by kernel_rfl) rfl (fun K hK => ?_)
            go_simp
            go_wp2_with fail
            refine (joined_minus p _ v6 S zs6 _ Hp.out (HSi.out.ext y6) I6.out HSp.out.rng J6.out.rng (bz_len hln2.out hqr2.out J6.out E6.out)).mono ?_
            rintro _ w8 ⟨v8, zs8, rfl, i8, j8, e8, x8⟩
            have y8 : Ext W w8 := y6.trans x8
            have bs8 := boxed_ext y8 bs
            have bt8 := boxed_ext y8 bt
            have cs8 := bs8.cell
            have ct8 := bt8.cell
            have fs8 := bs8.frozen
            have ft8 := bt8.frozen
            have hfin := hid (bz_next (i := i) (x := ⟨(qv, ql), hq1, hq2, hq3⟩) hI.out hx' y8 i8 j8 (by rw [e8, E6.out]) (bz_len2 hln2.out hqr2.out J6.out E6.out j8 e8))
            obtain ⟨ua, uc, rfl, um1, um2, um3⟩ := i8
            clear j8 e8 um3
            go_wp2_with fail
            refine hK.out _ _ (hE.trans y8) (fun hHeld => ?_)
            clear hK K
            refine held_step 9 (by kernel_rfl) rfl (fun K hK => ?_)
            go_simp
            have ct9 : (w8.setCell ⟨J + 1, 0, none⟩ (.slice ta T.length tcap)).cell? ⟨J + 1 + 1, 0, none⟩ = some (.slice ta T.length tcap) := (World.cell?_setCell_other _ _ _ _ (by simp)).trans ct8
            refine hK.out _ _ (Ext.setCell (p := ⟨J + 1, 0, none⟩) (hE.trans y8) hJ1 _) (fun hHeld => ?_)
            clear hK K
            refine held_step 10 (by kernel_rfl) rfl (fun K hK => ?_)
            go_simp
            refine hK.out _ _ (Ext.setCell (p := ⟨J + 1 + 1, 0, none⟩) (Ext.setCell (p := ⟨J + 1, 0, none⟩) (hE.trans y8) hJ1 _) hJ2 _) (fun hHeld => ?_)
            clear hK K
            refine wpAnyH_done (by kernel_rfl) ?_ _
            exact hfin.out
          refine AllReadyH.cons rfl (fun K hK => ?_) ?_
          · go_simp
            go_wp2_with fail
            refine (joined_minus p _ v6 S zs6 _ Hp.out (HSi.out.ext y6) I6.out HSp.out.rng J6.out.rng (bz_len hln2.out hqr2.out J6.out E6.out)).mono ?_
            rintro _ w8 ⟨v8, zs8, rfl, i8, j8, e8, x8⟩
            have y8 : Ext W w8 := y6.trans x8
            have bs8 := boxed_ext y8 bs
            have bt8 := boxed_ext y8 bt
            have cs8 := bs8.cell
            have ct8 := bt8.cell
            have fs8 := bs8.frozen
            have ft8 := bt8.frozen
            have hfin := hid (bz_next (i := i) (x := ⟨(qv, ql), hq1, hq2, hq3⟩) hI.out hx' y8 i8 j8 (by rw [e8, E6.out]) (bz_len2 hln2.out hqr2.out J6.out E6.out j8 e8))
            obtain ⟨ua, uc, rfl, um1, um2, um3⟩ := i8
            clear j8 e8 um3
            go_wp2_with fail
            refine hK.out _ _ (hE.trans y8) (fun hHeld => ?_)
            clear hK K
            refine held_step 0 (by kernel_rfl) rfl (fun K hK => ?_)
            go_simp
            refine hK.out _ _ hHeld (fun hHeld => ?_)
            clear hK K
            refine held_step 9 (by kernel_rfl) rfl (fun K hK => ?_)
            go_simp
            have ct9 : (w8.setCell ⟨J + 1, 0, none⟩ (.slice ta T.length tcap)).cell? ⟨J + 1 + 1, 0, none⟩ = some (.slice ta T.length tcap) := (World.cell?_setCell_other _ _ _ _ (by simp)).trans ct8
            refine hK.out _ _ (Ext.setCell (p := ⟨J + 1, 0, none⟩) (hE.trans y8) hJ1 _) (fun hHeld => ?_)
            clear hK K
            refine held_step 10 (by kernel_rfl) rfl (fun K hK => ?_)
            go_simp
            refine hK.out _ _ (Ext.setCell (p := ⟨J + 1 + 1, 0, none⟩) (Ext.setCell (p := ⟨J + 1, 0, none⟩) (hE.trans y8) hJ1 _) hJ2 _) (fun hHeld => ?_)
            clear hK K
            refine wpAnyH_done (by kernel_rfl) ?_ _
            exact hfin.out
          exact AllReadyH.nil
        exact AllReadyH.nil
      refine AllReadyH.cons rfl (fun K hK => ?_) ?_
      · go_simp
        go_wp2_with fail
        refine (product_any p qv _ ql T _ Hp.out (hqi.out.ext hHeld) (HTi.out.ext hx0) hqr.out HTp.out.rng hln.out).mono ?_
        rintro _ w6 ⟨v6, zs6, rfl, i6, j6, e6, x6⟩
        have y6 : Ext W w6 := hx0.trans x6
        have bs6 := boxed_ext y6 bs
        have bt6 := boxed_ext y6 bt
        have cs6 := bs6.cell
        have ct6 := bt6.cell
        have I6 := hid i6; have J6 := hid j6; have E6 := hid e6
        clear i6 j6 e6
        go_wp2_with fail
        refine hK.out _ _ (hE.trans y6) (fun hHeld => ?_)
        clear hK K
        refine wpAnyH_ready (rs := [0, 3]) (by kernel_rfl) (by simp) ?_
        refine AllReadyH.cons rfl (fun K hK => ?_) ?_
        · go_simp
          refine hK.out _ _ hHeld (fun hHeld => ?_)
          clear hK K
          refine held_step 3 (by kernel_rfl) rfl (fun K hK => ?_)
          go_simp
          refine hK.out _ _ hHeld (fun hHeld => ?_)
          clear hK K
          refine held_step 8 (by kernel_rfl) rfl (fun K hK => ?_)
          go_simp
          go_wp2_with fail
          refine (joined_minus p _ v6 S zs6 _ Hp.out (HSi.out.ext y6) I6.out HSp.out.rng J6.out.rng (bz_len hln2.out hqr2.out J6.out E6.out)).mono ?_
          rintro _ w8 ⟨v8, zs8, rfl, i8, j8, e8, x8⟩
          have y8 : Ext W w8 := y6.trans x8
          have bs8 := boxed_ext y8 bs
          have bt8 := boxed_ext y8 bt
          have cs8 := bs8.cell
          have ct8 := bt8.cell
          have fs8 := bs8.frozen
          have ft8 := bt8.frozen
          have hfin := hid (bz_next (i := i) (x := ⟨(qv, ql), hq1, hq2, hq3⟩) hI.out hx' y8 i8 j8 (by rw [e8, E6.out]) (bz_len2 hln2.out hqr2.out J6.out E6.out j8 e8))
          obtain ⟨ua, uc, rfl, um1, um2, um3⟩ := i8
          clear j8 e8 um3
          go_wp2_with fail
          refine hK.out _ _ (hE.trans y8) (fun hHeld => ?_)
          clear hK K
          refine held_step 9 (by kernel_rfl) rfl (fun K hK => ?_)
          go_simp
          have ct9 : (w8.setCell ⟨J + 1, 0, none⟩ (.slice ta T.length tcap)).cell? ⟨J + 1 + 1, 0, none⟩ = some (.slice ta T.length tcap) := (World.cell?_setCell_other _ _ _ _ (by simp)).trans ct8
          refine hK.out _ _ (Ext.setCell (p := ⟨J + 1, 0, none⟩) (hE.trans y8) hJ1 _) (fun hHeld => ?_)
          clear hK K
          refine held_step 10 (by kernel_rfl) rfl (fun K hK => ?_)
          go_simp
          refine hK.out _ _ (Ext.setCell (p := ⟨J + 1 + 1, 0, none⟩) (Ext.setCell (p := ⟨J + 1, 0, none⟩) (hE.trans y8) hJ1 _) hJ2 _) (fun hHeld => ?_)
          clear hK K
          refine wpAnyH_done (by kernel_rfl) ?_ _
          exact hfin.out
        refine AllReadyH.cons rfl (fun K hK => ?_) ?_
        · go_simp
          refine hK.out _ _ hHeld (fun hHeld => ?_)
          clear hK K
          refine wpAnyH_ready (rs := [0, 8]) (by kernel_rfl) (by simp) ?_
          refine AllReadyH.cons rfl (fun K hK => ?_) ?_
          · go_simp
            refine hK.out _ _ hHeld (fun hHeld => ?_)
            clear hK K
            refine held_step 8 (by kernel_rfl) rfl (fun K hK => ?_)
            go_simp
            go_wp2_with fail
            refine (joined_minus p _ v6 S zs6 _ Hp.out (HSi.out.ext y6) I6.out HSp.out.rng J6.out.rng (bz_len hln2.out hqr2.out J6.out E6.out)).mono ?_
            rintro _ w8 ⟨v8, zs8, rfl, i8, j8, e8, x8⟩
            have y8 : Ext W w8 := y6.trans x8
            have bs8 := boxed_ext y8 bs
            have bt8 := boxed_ext y8 bt
            have cs8 := bs8.cell
            have ct8 := bt8.cell
            have fs8 := bs8.frozen
            have ft8 := bt8.frozen
            have hfin := hid (bz_next (i := i) (x := ⟨(qv, ql), hq1, hq2, hq3⟩) hI.out hx' y8 i8 j8 (by rw [e8, E6.out]) (bz_len2 hln2.out hqr2.out J6.out E6.out j8 e8))
            obtain ⟨ua, uc, rfl, um1, um2, um3⟩ := i8
            clear j8 e8 um3
            go_wp2_with fail
            refine hK.out _ _ (hE.trans y8) (fun hHeld => ?_)
            clear hK K
            refine held_step 9 (by kernel_rfl) rfl (fun K hK => ?_)
            go_simp
            have ct9 : (w8.setCell ⟨J + 1, 0, none⟩ (.slice ta T.length tcap)).cell? ⟨J + 1 + 1, 0, none⟩ = some (.slice ta T.length tcap) := (World.cell?_setCell_other _ _ _ _ (by simp)).trans ct8
            refine hK.out _ _ (Ext.setCell (p := ⟨J + 1, 0, none⟩) (hE.trans y8) hJ1 _) (fun hHeld => ?_)
            clear hK K
            refine held_step 10 (by kernel_rfl) rfl (fun K hK => ?_)
            go_simp
            refine hK.out _ _ (Ext.setCell (p := ⟨J + 1 + 1, 0, none⟩) (Ext.setCell (p := ⟨J + 1, 0, none⟩) (hE.trans y8) hJ1 _) hJ2 _) (fun hHeld => ?_)
            clear hK K
            refine wpAnyH_done (by kernel_rfl) ?_ _
            exact hfin.out
          refine AllReadyH.cons rfl (fun K hK => ?_) ?_
          · go_simp
            go_wp2_with fail
            refine (joined_minus p _ v6 S zs6 _ Hp.out (HSi.out.ext y6) I6.out HSp.out.rng J6.out.rng (bz_len hln2.out hqr2.out J6.out E6.out)).mono ?_
            rintro _ w8 ⟨v8, zs8, rfl, i8, j8, e8, x8⟩
            have y8 : Ext W w8 := y6.trans x8
            have bs8 := boxed_ext y8 bs
            have bt8 := boxed_ext y8 bt
            have cs8 := bs8.cell
            have ct8 := bt8.cell
            have fs8 := bs8.frozen
            have ft8 := bt8.frozen
            have hfin := hid (bz_next (i := i) (x := ⟨(qv, ql), hq1, hq2, hq3⟩) hI.out hx' y8 i8 j8 (by rw [e8, E6.out]) (bz_len2 hln2.out hqr2.out J6.out E6.out j8 e8))
            obtain ⟨ua, uc, rfl, um1, um2, um3⟩ := i8
            clear j8 e8 um3
            go_wp2_with fail
            refine hK.out _ _ (hE.trans y8) (fun hHeld => ?_)
            clear hK K
            refine held_step 0 (by kernel_rfl) rfl (fun K hK => ?_)
            go_simp
            refine hK.out _ _ hHeld (fun hHeld => ?_)
            clear hK K
            refine held_step 9 (by kernel_rfl) rfl (fun K hK => ?_)
            go_simp
            have ct9 : (w8.setCell ⟨J + 1, 0, none⟩ (.slice ta T.length tcap)).cell? ⟨J + 1 + 1, 0, none⟩ = some (.slice ta T.length tcap) := (World.cell?_setCell_other _ _ _ _ (by simp)).trans ct8
            refine hK.out _ _ (Ext.setCell (p := ⟨J + 1, 0, none⟩) (hE.trans y8) hJ1 _) (fun hHeld => ?_)
            clear hK K
            refine held_step 10 (by kernel_rfl) rfl (fun K hK => ?_)
            go_simp
            refine hK.out _ _ (Ext.setCell (p := ⟨J + 1 + 1, 0, none⟩) (Ext.setCell (p := ⟨J + 1, 0, none⟩) (hE.trans y8) hJ1 _) hJ2 _) (fun hHeld => ?_)
            clear hK K
            refine wpAnyH_done (by kernel_rfl) ?_ _
            exact hfin.out
          exact AllReadyH.nil
        exact AllReadyH.nil
      exact AllReadyH.nil
    exact AllReadyH.nil
  case done =>
    rintro D zs' W hD hS ⟨vs, vt, S, T, bs, bt, g3, g4, g5, g6, g7, g8, g9, g10, hE, hsW⟩ hK
    have cs := bs.cell
    have ct := bt.cell
    have hmx : Tryz.prog.follows .mixedOrders = true := by kernel_rfl
    have HSi := hid g3; have HTi := hid g4; have HSp := hid g5; have HTp := hid g6; have HSe := hid g7; have HTe := hid g8
    have hKs := hid hK
    have hDl := (Array.getElem?_eq_some_iff.1 hK).1
    have hHb' := hHb
    clear g3 g4 g5 g6 g7 g8 g9 g10 hK
    gi_wp2
    refine wpIn_wide.2 (wp_region_noPanic ?_)
    refine wp_region_held_drew (S := fun W' => Ext W W') hmx ((Ext.refl W).drew) (fun hHeld => ?_)
    refine wpAnyH_take (i := 0) (v := .int .u64 p) rfl (by kernel_rfl) (by kernel_rfl) (by kernel_rfl) (fun _ _ _ h => h) (Or.inl ⟨by rfl, ?_⟩) hHeld ?_
    · intro W' hSw
      have cp' := ((hE.trans hSw).cells H 0 hHb).trans bpb.cell
      go_simp
    refine wpAnyH_take (i := 1) (v := .slice ea E.length ecap) rfl (by kernel_rfl) (by kernel_rfl) (by kernel_rfl) (fun _ _ _ h => h) (Or.inl ⟨by rfl, ?_⟩) hHeld ?_
    · intro W' hSw
      go_simp
    refine wpAnyH_take (i := 2) (v := .int .u64 inv) rfl (by kernel_rfl) (by kernel_rfl) (by kernel_rfl) (fun _ _ _ h => h) (Or.inl ⟨by rfl, ?_⟩) hHeld ?_
    · intro W' hSw
      go_simp
    refine wpAnyH_take (i := 5) (v := vs) rfl (by kernel_rfl) (by kernel_rfl) (by kernel_rfl) (fun _ _ _ h => h) (Or.inl ⟨by rfl, ?_⟩) hHeld ?_
    · intro W' hSw
      have cs' := (boxed_ext hSw bs).cell
      go_simp
    refine wpAnyH_take (i := 6) (v := vt) rfl (by kernel_rfl) (by kernel_rfl) (by kernel_rfl) (fun _ _ _ h => h) (Or.inl ⟨by rfl, ?_⟩) hHeld ?_
    · intro W' hSw
      have ct' := (boxed_ext hSw bt).cell
      go_simp
    refine held_step 3 (by kernel_rfl) rfl (fun K hK => ?_)
    go_simp
    refine hK.out _ _ ((Ext.refl W).drew.alloc _) (fun hHeld => ?_)
    clear hK K
    refine held_step 4 (by kernel_rfl) rfl (fun K hK => ?_)
    go_simp
    go_wp2_with fail
    have hEW : Ext w1 W := (x2.trans hxb).trans hE
    have hi9 : Ints .u64 (W.drew.alloc (.cells #[.int .u64 inv] 22)) (.slice (some ⟨W.heap.size, 0, none⟩) 1 1) [inv] := Ints.new1
    refine (product_any p _ _ E [inv] _ Hp.out (HE.out.ext (hEW.trans hHeld)) hi9 HEp.out.rng (Rng.one hinv.1 hinv.2) (by simp; omega)).mono ?_
    rintro _ w9 ⟨vg, G, rfl, i9, j9, e9, x9⟩
    have y9 : Ext W w9 := hHeld.trans x9
    have hG : pol p G = pol p E * Ser.C p inv := by rw [e9, pol_single]
    have I9 := hid i9; have J9 := hid j9; have HG := hid hG
    clear i9 j9 e9 hG
    go_wp2_with fail
    refine hK.out _ _ y9 (fun hHeld => ?_)
    clear hK K
    refine held_step 7 (by kernel_rfl) rfl (fun K hK => ?_)
    go_simp
    refine hK.out _ _ hHeld (fun hHeld => ?_)
    clear hK K
    refine held_step 8 (by kernel_rfl) rfl (fun K hK => ?_)
    go_simp
    refine hK.out _ _ hHeld (fun hHeld => ?_)
    clear hK K
    refine held_step 9 (by kernel_rfl) rfl (fun K hK => ?_)
    go_simp
    refine hK.out _ _ hHeld (fun hHeld => ?_)
    clear hK K
    refine held_step 10 (by kernel_rfl) rfl (fun K hK => ?_)
    go_simp
    refine hK.out _ _ hHeld (fun hHeld => ?_)
    clear hK K
    refine wpAnyH_done (by kernel_rfl) (NoPanic.normal ?_) _
    have hK9 : w9.heap[D]? = some (.deferred (some [])) := (y9.block D hDl).trans hKs.out
    gi_wp2
    refine ⟨by simp, .inl ⟨_, _, rfl, run_takeDeferred hK9, ?_⟩⟩
    have hrow : ∀ r, some D = some r → ∃ o : Obj, w9.heap[r]? = some o ∧ o.isCells = false := fun r e => by cases e; exact ⟨_, hK9, rfl⟩
    have hsw2 : zs'.map (·.2.1.2) = (List.range qs.length).map fun x => qAt qs (qs.length - 1 - x) := by
      rw [← qs_back, ← hzs, List.map_map, ← List.map_reverse, ← hS, List.map_map]
      rfl
    have hb := bz_rems HR.out (c := Ser.C p inv) (Ser.low_C inv) qs.length 0 (by omega)
    rw [← hsw2, ← HSe.out, ← HTe.out, HR0.out, show (0 : Nat) + 1 = 1 from rfl, HR1.out, HEe.out] at hb
    have hli' : inv * lead E % p = 1 := by rw [Int.mul_comm]; exact Hli.out
    have hmo := monic_of HEp.out HEn.out J9.out HG.out Hli.out hinv.1 hinv.2
    have hg := HR.out.gcd hp2.1 HRe.out J9.out (fun _ => hmo.2.1) (by rw [HEe.out]; exact HG.out) (.inl hli')
    rw [HR0.out, HR1.out] at hg
    refine ⟨_, results_tmp4 rfl _ _ _, vg, vs, vt, G, S, T, rfl, I9.out.own (grownBy_putObj' _ D _) hrow, (HSi.out.ext y9).own (grownBy_putObj' _ D _) hrow, (HTi.out.ext y9).own (grownBy_putObj' _ D _) hrow, hg, HSp.out, HTp.out, ?_, ?_, ?_, ?_, ?_⟩
    · rw [hb.1, HG.out, Ser.mul_comm]
    · exact HSp.out.len_le hb.2.1
    · exact HTp.out.len_le hb.2.2
    · have hxW : Ext w W := (hxw2.trans hxb).trans hE
      exact Below.trans (hxW.trans y9) (belowK_b (w := w) (Nat.le_refl _) w9 D _ _ (by have := hxW.size; have := hxb5.size; omega) hK9 rfl rfl)
    · intro hy1
      have hq1 : qs.length = 1 := by
        have r1 : (R 1).length = 1 := by rw [HR1.out]; exact hy1
        rcases Nat.lt_or_ge qs.length 1 with h | h
        · exfalso
          have e0 : qs.length = 0 := by omega
          have e1 := HRe.out
          rw [e0] at e1
          rw [show R 1 = [] from e1] at r1
          cases r1
        · rcases Nat.lt_or_ge 1 qs.length with h2 | h2
          · have d0 := HR.out.dec 0 (by omega)
            have d1 := HR.out.dec 1 h2
            have d0' : (R 2).length < (R 1).length := d0
            have d1' : (R 3).length < (R 2).length := d1
            omega
          · omega
      have hS0 : pol p S = 0 := by
        rw [HSe.out, hsw2, hq1]
        rfl
      exact HSp.out.inj Pol.nil (by rw [hS0, pol_nil])
  case stop =>
    rintro D c pre W _ _ h _
    exact h.elim
theorem pBez_yes (p : Int) (v u : Value) (xs ys : List Int) (w : World) (hp : rightB p = true) (hF : Fld p) (hv : Ints .u64 w v xs) (hu : Ints .u64 w u ys) (hx : Pol p xs) (hy : Pol p ys) (hl : xs.length ≤ 512 ∧ ys.length ≤ 512) (h0 : ¬ (xs = [] ∧ ys = [])) :
    Calls Tryz.prog 34 #[.int .u64 p, v, u] w (RetB p xs ys w) :=
  (pBez_yes1 p v u xs ys w hp hF hv hu hx hy hl h0).mono fun _ _ ⟨a1, a2, a3, a4, a5, a6, a7, a8, a9, a10, a11, a12, a13, a14, a15, a16, a17, _⟩ => ⟨a1, a2, a3, a4, a5, a6, a7, a8, a9, a10, a11, a12, a13, a14, a15, a16, a17⟩
end Go.Proofs.YtijpeepdedfhoaaGreat
