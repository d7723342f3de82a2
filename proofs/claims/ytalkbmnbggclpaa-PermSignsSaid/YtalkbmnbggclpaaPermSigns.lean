/- PermSigns: whatever the two lists and the two numbers, the law answers true, and nothing that was there has turned. No condition. -/
import Derived.Test.YtalkbmnbggclpaaAwake06
import Derived.Deep.RegionLaw
namespace Go.Proofs.Ytalkbmnbggclpaa.permSigns
open Go.ChangeShapes Go.WideShapes Go.ChangeAt Go.RowKit Go.Maps

set_option maxRecDepth 100000 in
set_option maxHeartbeats 2000000 in
theorem walk_skip (v u : Value) (p q : List Int) (i k : Int) (w : World) (hv : Ints .i64 w v p) (hx : I64s p) (hu : Ints .i64 w u q) (hy : I64s q)
    (h : (ordB p && ordB q && decide (p.length = q.length)) = false) :
    Calls Try.prog 4 #[v, u, .int .u8 i, .int .u8 k] w (Ret (.bool true) w) := by
  have C1 := hid fun (W : World) (hW : Ext w W) => pmRight v p W (hv.ext hW) hx
  have C2 := hid fun (W : World) (hW : Ext w W) => pmRight u q W (hu.ext hW) hy
  obtain ⟨P, e1⟩ : ∃ B, ordB p = B := ⟨_, rfl⟩
  obtain ⟨Q, e2⟩ : ∃ B, ordB q = B := ⟨_, rfl⟩
  obtain ⟨L, e3⟩ : ∃ B, decide (p.length = q.length) = B := ⟨_, rfl⟩
  rw [e1] at C1 h; rw [e2] at C2 h; rw [e3] at h
  have t3 : ((p.length : Int) != (q.length : Int)) = !L := by rw [← e3]; by_cases e : p.length = q.length <;> simp [e]; omega
  obtain ⟨a, cap, rfl, k1, k2, k3⟩ := hv
  obtain ⟨a', cap', rfl, k1', k2', k3'⟩ := hu
  clear k3 k3' hx hy e1 e2 e3
  cases P with
  | false =>
    as_aux_lemma =>
      go_enter Try.func4, Try.ntmps4
      go_wp2_with fail
      refine (awake06 _).mono ?_
      rintro _ w1 ⟨rfl, x1⟩
      go_wp2_with fail
      refine (C1.out _ x1).mono ?_
      rintro _ w2 ⟨rfl, x2⟩
      go_wp2_with fail
      go_ret
      exact ⟨rfl, x1.trans x2⟩
  | true =>
    cases Q with
    | false =>
      as_aux_lemma =>
        go_enter Try.func4, Try.ntmps4
        go_wp2_with fail
        refine (awake06 _).mono ?_
        rintro _ w1 ⟨rfl, x1⟩
        go_wp2_with fail
        refine (C1.out _ x1).mono ?_
        rintro _ w2 ⟨rfl, x2⟩
        go_wp2_with fail
        refine (C2.out _ (x1.trans x2)).mono ?_
        rintro _ w3 ⟨rfl, x3⟩
        go_wp2_with fail
        go_ret
        exact ⟨rfl, (x1.trans x2).trans x3⟩
    | true =>
      cases L with
      | false =>
        as_aux_lemma =>
          go_enter Try.func4, Try.ntmps4
          go_wp2_with fail
          refine (awake06 _).mono ?_
          rintro _ w1 ⟨rfl, x1⟩
          go_wp2_with fail
          refine (C1.out _ x1).mono ?_
          rintro _ w2 ⟨rfl, x2⟩
          go_wp2_with fail
          refine (C2.out _ (x1.trans x2)).mono ?_
          rintro _ w3 ⟨rfl, x3⟩
          go_wp2_with fail
          go_ret
          exact ⟨rfl, (x1.trans x2).trans x3⟩
      | true => cases h

set_option maxRecDepth 100000 in
set_option maxHeartbeats 2000000 in
theorem walk_yes (v u : Value) (n : Nat) (p q : List Int) (i k : Int) (w : World) (hv : Ints .i64 w v p) (hu : Ints .i64 w u q) (hp : Ord n p) (hq : Ord n q) (h0 : 0 < n) (h1 : n ≤ 64) (hi : 0 ≤ i ∧ i ≤ 255) (hk : 0 ≤ k ∧ k ≤ 255) :
    Calls Try.prog 4 #[v, u, .int .u8 i, .int .u8 k] w (Ret (.bool true) w) := by
  obtain ⟨i0, hI, hz0, hz1, hz2⟩ := info_parts info_i64p
  have Hp := hid hp
  have C1 := hid fun (W : World) (hW : Ext w W) => (show Calls Try.prog 16 #[v] W (Ret (.bool true) W) from hp.b h0 h1 ▸ pmRight v p W (hv.ext hW) (hp.i64 h1))
  have C2 := hid fun (W : World) (hW : Ext w W) => (show Calls Try.prog 16 #[u] W (Ret (.bool true) W) from hq.b h0 h1 ▸ pmRight u q W (hu.ext hW) (hq.i64 h1))
  have C3 := hid fun (W : World) (hW : Ext w W) => pThen (hv.ext hW) (hu.ext hW) hp hq h0 h1
  have C4 := hid fun (W : World) (hW : Ext w W) => pBack (hv.ext hW) hp h0 h1
  have C5 := hid fun (W : World) (hW : Ext w W) => pSign (hv.ext hW) hp h0 h1
  have C6 := hid fun (W : World) (hW : Ext w W) => pSign (hu.ext hW) hq h0 h1
  have C7 := hid fun (W : World) (vt : Value) (h : Ints .i64 W vt (thenL p q)) => sgn_then hp hq ▸ pSign h (hp.then hq) h0 h1
  have C8 := hid fun (W : World) (vt : Value) (h : Ints .i64 W vt (backL p)) => sgn_back hp ▸ pSign h hp.back h0 h1
  have hs1 := sgn_or p
  have hs2 := sgn_or q
  have S9 := hid fun (x y : Nat) (hy : y < n) (hxy : x < y) => sgn_set hp hy hxy
  obtain ⟨s1, e1⟩ : ∃ s, sgnL p = s := ⟨_, rfl⟩
  obtain ⟨s2, e2⟩ : ∃ s, sgnL q = s := ⟨_, rfl⟩
  rw [e1] at C5 C7 C8 hs1
  rw [e2] at C6 C7 hs2
  have E1 := hid e1
  have hl := hp.len
  have hl2 := hq.len
  have hT := hid ((hp.then hq).len)
  have HV := hid hv
  obtain ⟨a, cap, rfl, k1, k2, k3⟩ := hv
  obtain ⟨a', cap', rfl, k1', k2', k3'⟩ := hu
  rw [hl] at k1 k3 C1 C3 C4 C5 HV ⊢
  rw [hl2] at C2 C3 C6 k1' ⊢
  obtain ⟨b, off, rfl, hb, hcell⟩ := k3 h0
  have HC := hid hcell
  clear k3 k3' hcell e1 e2 hl hl2 hp hq
  obtain ⟨x, hx⟩ : ∃ x : Nat, i.tmod (n : Int) = (x : Int) ∧ i % (n : Int) = (x : Int) ∧ x < n := by
    have h2 : i.tmod (n : Int) = i % (n : Int) := Int.tmod_eq_emod_of_nonneg hi.1
    have h3 := Int.emod_nonneg i (show (n : Int) ≠ 0 by omega)
    have h4 := Int.emod_lt_of_pos i (show (0 : Int) < n by omega)
    exact ⟨(i % (n : Int)).toNat, by omega, by omega, by omega⟩
  obtain ⟨y, hy⟩ : ∃ y : Nat, k.tmod (n : Int) = (y : Int) ∧ k % (n : Int) = (y : Int) ∧ y < n := by
    have h2 : k.tmod (n : Int) = k % (n : Int) := Int.tmod_eq_emod_of_nonneg hk.1
    have h3 := Int.emod_nonneg k (show (n : Int) ≠ 0 by omega)
    have h4 := Int.emod_lt_of_pos k (show (0 : Int) < n by omega)
    exact ⟨(k % (n : Int)).toNat, by omega, by omega, by omega⟩
  have Hx := hid hx; have Hy := hid hy
  clear hx hy
  go_enter Try.func4, Try.ntmps4
  go_wp2_with fail
  refine (awake06 _).mono ?_
  rintro _ w1 ⟨rfl, x1⟩
  go_wp2_with fail
  refine (C1.out _ x1).mono ?_
  rintro _ w2 ⟨rfl, x2⟩
  have y2 := x1.trans x2
  go_wp2_with fail
  refine (C2.out _ y2).mono ?_
  rintro _ w3 ⟨rfl, x3⟩
  have y3 := y2.trans x3
  go_wp2_with fail
  refine (C3.out _ y3).mono ?_
  rintro _ w4 ⟨v4, rfl, i4, x4⟩
  have y4 := y3.trans x4
  have I4 := hid i4
  clear i4
  go_wp2_with fail
  refine (C4.out _ y4).mono ?_
  rintro _ w5 ⟨v5, rfl, i5, x5⟩
  have y5 := y4.trans x5
  have I5 := hid i5
  clear i5
  go_wp2_with fail
  refine (C5.out _ y5).mono ?_
  rintro _ w6 ⟨rfl, x6⟩
  have y6 := y5.trans x6
  go_wp2_with fail
  refine (C6.out _ y6).mono ?_
  rintro _ w7 ⟨rfl, x7⟩
  have y7 := y6.trans x7
  go_wp2_with fail
  refine (C7.out _ _ (I4.out.ext (x5.trans (x6.trans x7)))).mono ?_
  rintro _ w8 ⟨rfl, x8⟩
  have y8 := y7.trans x8
  go_wp2_with fail
  refine (C8.out _ _ (I5.out.ext (x6.trans (x7.trans x8)))).mono ?_
  rintro _ w9 ⟨rfl, x9⟩
  have y9 := y8.trans x9
  go_upto_region 11 with fail
  go_cut [99] from 74 to 98 (fun tv w' => tv = .bool false ∧ w9 = w')
  case first =>
    rcases hs1 with rfl | rfl <;> rcases hs2 with rfl | rfl <;>
    · go_wp2_with fail
      go_meet
      exact ⟨rfl, rfl⟩
  case rest =>
    obtain ⟨rfl, rfl⟩ := hcut
    clear C1 C2 C3 C4 C5 C6 C7 C8 x2 x3 x4 x5 x6 x7 x8 x9 y2 y3 y4 y5 y6 y7 y8 I4 I5 hs2
    have hx1 := Hx.out.1; have hx2 := Hx.out.2.1; have hy1 := Hy.out.1; have hy2 := Hy.out.2.1
    have hn0 : ((n : Int) == 0) = false := by rw [beq_eq_false_iff_ne]; omega
    go_wp2_with fail
    go_quiet (fail)
    clear hx1 hx2 hy1 hy2 hn0
    go_wp2_with (first
      | (at_builtin; refine wpList_append_own _ rfl _ _ 22 rfl w.heap.size 3 i0 (.int .i64 0) 1 8 Try.underlying22 hI hz0 hz1 hz2 rfl (by decide) (.slice (some ⟨w9.heap.size, 0, none⟩) 0 0) 0 [] rfl (World.ownsRow_lit (base := w.heap.size) (e := 3) (size := 1) _ #[] 0 y9.size (by decide) rfl) ⟨b, off, none⟩ n cap (p.map (Value.int .i64)) rfl (by rw [List.length_map, Hp.out.len, Nat.mul_one]) (ints_news (HV.out.ext ((y9.drewN _).alloc _))) ints_one (by simp only [maxLen]; omega) (by omega) ((y9.drewN _).alloc _).size ?_
         intro v' wa hown6 hgrow6 hnil6
         have hx6 := ((y9.drewN _).alloc _).grown hgrow6 (fun t e => by have e' := e; simp [Value.ownBlock] at e'; have := y9.size; omega)
         rw [Nat.zero_add, List.nil_append] at hown6
         have Hown6 := hid hown6
         have Hx6 := hid hx6
         clear hown6 hgrow6 hnil6 hx6)
      | fail)
    obtain ⟨g, c, rfl, hc1, hc2, hwg, hgl⟩ := owns_some Hown6.out h0
    have hxn := Hx.out.2.2; have hyn := Hy.out.2.2
    have gx := Hown6.out.cellAt x (by omega)
    have gy := Hown6.out.cellAt y (by omega)
    rw [List.getElem?_map, List.getElem?_eq_getElem (show x < p.length by rw [Hp.out.len]; exact hxn), Option.map_some] at gx
    rw [List.getElem?_map, List.getElem?_eq_getElem (show y < p.length by rw [Hp.out.len]; exact hyn), Option.map_some] at gy
    obtain ⟨px, ex⟩ : ∃ z, p[x]'(by rw [Hp.out.len]; exact hxn) = z := ⟨_, rfl⟩
    obtain ⟨py, ey⟩ : ∃ z, p[y]'(by rw [Hp.out.len]; exact hyn) = z := ⟨_, rfl⟩
    rw [ex] at gx; rw [ey] at gy
    have Ex := hid (show p.getD x 0 = px by rw [List.getD, List.getElem?_eq_getElem (show x < p.length by rw [Hp.out.len]; exact hxn)]; exact ex)
    have Ey := hid (show p.getD y 0 = py by rw [List.getD, List.getElem?_eq_getElem (show y < p.length by rw [Hp.out.len]; exact hyn)]; exact ey)
    have fx := Hown6.out.frozenAt x
    have fy := Hown6.out.frozenAt y
    clear ex ey
    have hs1 := World.ownsRow.stored (w := wa) Hown6.out x (.int .i64 py)
    have hs2 := hs1.1.stored y (.int .i64 px)
    have hE := hid ((Hx6.out.setCell (p := ⟨g, x, none⟩) hwg (.int .i64 py)).setCell (p := ⟨g, y, none⟩) hwg (.int .i64 px)).drew
    have fy2 := hs1.1.frozenAt y
    have gy2 : ∃ z, (wa.setCell ⟨g, x, none⟩ (.int .i64 py)).cell? ⟨g, y, none⟩ = some z := by
      rw [hs1.1.cellAt y (by omega)]
      exact ⟨_, List.getElem?_eq_getElem (by rw [List.length_set, List.length_map, Hp.out.len]; exact hyn)⟩
    obtain ⟨z, gy2⟩ := gy2
    have hrow := hs2.1
    rw [← List.map_set, ← List.map_set] at hrow
    obtain ⟨_, _, _, _, hI⟩ := owns_ints hrow
    have HI := hid hI
    clear hs1 hs2 hrow hI
    obtain ⟨T, hT2⟩ : ∃ T, (p.set x py).set y px = T := ⟨_, rfl⟩
    rw [hT2] at HI
    have hfin : Hid (Ord n T ∧ (((x : Int) == (y : Int)) = (sgnL T == s1))) := by
      rcases Nat.lt_trichotomy x y with e | e | e
      · have h9 := S9.out x y hyn e
        rw [Ex.out, Ey.out, hT2, E1.out] at h9
        exact ⟨h9.1, by rw [beq_eq_false_iff_ne.2 h9.2, beq_eq_false_iff_ne]; omega⟩
      · subst e
        have e2 : T = p := by
          rw [← hT2, List.set_set, ← Ex.out]
          exact list_ext (by simp) fun j hj => by
            rw [set_get _ _ _ _ (by rw [Hp.out.len]; exact hxn)]
            split
            · rename_i e; rw [e]
            · rfl
        rw [e2, E1.out]
        exact ⟨Hp.out, by simp⟩
      · have h9 := S9.out y x hxn e
        rw [Ex.out, Ey.out, List.set_comm _ _ (show y ≠ x by omega), hT2, E1.out] at h9
        exact ⟨h9.1, by rw [beq_eq_false_iff_ne.2 h9.2, beq_eq_false_iff_ne]; omega⟩
    clear hT2
    obtain ⟨s3, e3⟩ : ∃ s, sgnL T = s := ⟨_, rfl⟩
    obtain ⟨B, e4⟩ : ∃ B, ((x : Int) == (y : Int)) = B := ⟨_, rfl⟩
    have e5 : (s3 == s1) = B := by rw [← e4, hfin.out.2, e3]
    have C9 := hid fun (W : World) (v : Value) (h : Ints .i64 W v T) => e3 ▸ pSign h hfin.out.1 h0 h1
    clear e3 hfin
    go_wp2_with fail
    go_region_law (fail)
    all_goals
      go_wp2_with fail
      refine (C9.out _ _ (HI.out.ext (Ext.refl _).drew)).mono ?_
      rintro _ wb ⟨rfl, xb⟩
      have hb1 : (B == B) = true := by cases B <;> rfl
      go_wp2_with fail
      go_ret
      exact ⟨rfl, hE.out.trans xb⟩

/-- the law answers true -/
theorem walk (v : Value) (p : List Int) (u : Value) (q : List Int) (i k : Int) (w : World) (hv : Ints .i64 w v p) (hx : ∀ x ∈ p, (Lit.int .i64 x).wf = true) (hu : Ints .i64 w u q) (hy : ∀ x ∈ q, (Lit.int .i64 x).wf = true) (hi : (Lit.int .u8 i).wf = true) (hk : (Lit.int .u8 k).wf = true) :
    Calls Try.prog 4 #[v, u, .int .u8 i, .int .u8 k] w (Ret (.bool true) w) := by
  have hx' : I64s p := fun x h => i64_wf (hx x h)
  have hy' : I64s q := fun x h => i64_wf (hy x h)
  cases h : (ordB p && ordB q && decide (p.length = q.length)) with
  | false => exact walk_skip v u p q i k w hv hx' hu hy' h
  | true =>
    simp only [Bool.and_eq_true, decide_eq_true_eq] at h
    obtain ⟨⟨g1, g2⟩, g3⟩ := h
    obtain ⟨a1, a2, a3⟩ := ordB_iff.1 g1
    obtain ⟨_, _, a4⟩ := ordB_iff.1 g2
    exact walk_yes v u p.length p q i k w hv hu a3 (g3.symm ▸ a4) a1 a2 (u8_wf hi) (u8_wf hk)

theorem own : ownKnob Try.prog.godebug = none := by kernel_rfl
set_option maxRecDepth 100000 in
theorem lifted (os : Os) (started : os.Started) (H : Type) (enc : TypeId × Value → H) :
    ReturnsInHanded {} Try.checked os 4 .any (Rows.permSignsSpec.pre6 enc Try.prog Try.f4 Rows.permSignsRow.domain false) (Rows.permSignsSpec.post enc Try.prog Try.f4 false true false false) := by
  refine returnsInHanded_of_change (C := Try.checked) own started (by kernel_rfl) Try.func4
    (ChangeSpec.witness6 (enc := enc) (C := Try.checked) false ⟨#[], #[.slice none 0 0, .slice none 0 0, .int .u8 0, .int .u8 0], []⟩ 8 (by kernel_rfl) (by kernel_rfl) (by kernel_rfl) (by kernel_rfl)) ?_
  intro W base args ds gs before hval0 hW _ _
  have hval : ∀ (j : Nat) t v, Try.f4.params[j]? = some t → args[j]? = some v → Value.okWide Try.prog W .any base t v := hval0
  have hW' := hW
  obtain ⟨p, q, hA0, hV, rfl, _, _⟩ := hW
  have hA : DataW.TrodAll enc Try.prog W 0 (fun _ => true) true Try.f4.params.toList args.toList ds p := hA0
  rw [Try.params4] at hA hval
  obtain ⟨v0, vs0, d0, ds0, p0, q0, hargs, rfl, rfl, h0, r0⟩ := trodAll_cons hA
  obtain ⟨v1, vs1, d1, ds1, p1, q1, rfl, rfl, rfl, h1, r1⟩ := trodAll_cons r0
  obtain ⟨v2, vs2, d2, ds2, p2, q2, rfl, rfl, rfl, h2, r2⟩ := trodAll_cons r1
  obtain ⟨v3, vs3, d3, ds3, p3, q3, rfl, rfl, rfl, h3, r3⟩ := trodAll_cons r2
  obtain ⟨rfl, rfl, rfl⟩ := trodAll_nil r3
  obtain rfl : args = #[v0, v1, v2, v3] := by cases args; simp_all
  obtain ⟨rfl, rfl⟩ := trodVars_none hV
  obtain ⟨xs0, i0, w0⟩ := open_Ints Try.underlying22 Try.underlying3 (by kernel_rfl) (hval 0 22 v0 rfl rfl) h0
  obtain ⟨xs1, i1, w1⟩ := open_Ints Try.underlying22 Try.underlying3 (by kernel_rfl) (hval 1 22 v1 rfl rfl) h1
  obtain ⟨a2, rfl, rfl, rfl, w2⟩ := open_int Try.underlying5 (hval 2 5 v2 rfl rfl) h2
  obtain ⟨a3, rfl, rfl, rfl, w3⟩ := open_int Try.underlying5 (hval 3 5 v3 rfl rfl) h3
  refine (walk v0 xs0 v1 xs1 a2 a3 W i0 w0 i1 w1 w2 w3).mono fun e W' ⟨he, hg⟩ => ⟨_, he, ?_⟩
  exact law_post (by kernel_rfl) (by kernel_rfl) rfl Try.underlying4 rfl rfl hW' hg

/-- the statement -/
theorem proved : Rows.PermSignsSaid :=
  OpenClaim.holds_of_wide 4 Try.f4 rfl rfl rfl rfl rfl rfl rfl ⟨rfl, rfl, rfl, rfl, rfl⟩ rfl rfl rfl rfl rfl (by kernel_rfl) Try.func4 (by kernel_rfl)
    (of_decide_eq_true (by kernel_rfl)) (by unfold Func.isWrapper; first | (rw [if_pos (by decide +kernel)]; kernel_rfl) | (rw [if_neg (by decide +kernel)]; exact ⟨rfl, rfl⟩))
    (fun os started H enc _ => lifted os started H enc)
end Go.Proofs.Ytalkbmnbggclpaa.permSigns
