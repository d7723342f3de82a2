/- PermMatrix: whatever the list and the numbers, the law answers true, and nothing that was there has turned. No condition. -/
import Derived.Test.YtalkbmnbggclpaaAwake06
import Derived.Test.YtalkbmnbggclpaaOrdMat
import Derived.Test.YtalkbmnbggclpaaMx6
namespace Go.Proofs.Ytalkbmnbggclpaa.permMatrix
open Go.ChangeShapes Go.WideShapes Go.ChangeAt Go.RowKit Go.Maps

set_option maxRecDepth 100000 in
set_option maxHeartbeats 2000000 in
theorem walk_skip (v u : Value) (p x : List Int) (w : World) (hv : Ints .i64 w v p) (hx : I64s p) (hu : Ints .u64 w u x)
    (h : (ordB p && decide (x.length = p.length)) = false) :
    Calls Try.prog 6 #[v, u] w (Ret (.bool true) w) := by
  have C1 := hid fun (W : World) (hW : Ext w W) => pmRight v p W (hv.ext hW) hx
  obtain ⟨P, e1⟩ : ∃ B, ordB p = B := ⟨_, rfl⟩
  obtain ⟨L, e3⟩ : ∃ B, decide (x.length = p.length) = B := ⟨_, rfl⟩
  rw [e1] at C1 h; rw [e3] at h
  have t3 : ((x.length : Int) != (p.length : Int)) = !L := by rw [← e3]; by_cases e : x.length = p.length <;> simp [e]; omega
  obtain ⟨a, cap, rfl, k1, k2, k3⟩ := hv
  obtain ⟨a', cap', rfl, k1', k2', k3'⟩ := hu
  clear k3 k3' hx e1 e3
  cases P with
  | false =>
    as_aux_lemma =>
      go_enter Try.func6, Try.ntmps6
      go_wp2_with fail
      refine (awake06 _).mono ?_
      rintro _ w1 ⟨rfl, x1⟩
      go_wp2_with fail
      refine (C1.out _ x1).mono ?_
      rintro _ w2 ⟨rfl, x2⟩
      go_wp2_with fail
      go_ret
      exact ⟨rfl, x1.trans x2⟩
  | true =>
    cases L with
    | false =>
      as_aux_lemma =>
        go_enter Try.func6, Try.ntmps6
        go_wp2_with fail
        refine (awake06 _).mono ?_
        rintro _ w1 ⟨rfl, x1⟩
        go_wp2_with fail
        refine (C1.out _ x1).mono ?_
        rintro _ w2 ⟨rfl, x2⟩
        go_wp2_with fail
        go_ret
        exact ⟨rfl, x1.trans x2⟩
    | true => cases h

set_option maxRecDepth 100000 in
set_option maxHeartbeats 4000000 in
theorem walk_yes (v u : Value) (n : Nat) (p x : List Int) (w : World) (hv : Ints .i64 w v p) (hu : Ints .u64 w u x) (hx : U64s x) (hp : Ord n p) (hl : x.length = n) (h0 : 0 < n) (h1 : n ≤ 64) :
    Calls Try.prog 6 #[v, u] w (Ret (.bool true) w) := by
  obtain ⟨i0, hI, hz0, hz1, hz2⟩ := info_parts info_u64p
  have hp2 := hp.len
  obtain ⟨F, hF⟩ : ∃ F : Nat → Int, (fun k => x.getD k 0 % 101) = F := ⟨_, rfl⟩
  have HF := hid (fun k => (congrFun hF k : x.getD k 0 % 101 = F k))
  have hR : Rng 101 (tab n F) := tab_rng fun k _ => by rw [← hF]; exact mod_range _ (by decide)
  have hV : U64s (tab n F) := hR.u64 (by decide)
  have C1 := hid fun (W : World) (hW : Ext w W) => (show Calls Try.prog 16 #[v] W (Ret (.bool true) W) from hp.b h0 h1 ▸ pmRight v p W (hv.ext hW) (hp.i64 h1))
  have C2 := hid fun (W : World) => mxOne_yes n W ⟨h0, h1⟩
  have C3 := hid fun (W : World) (hW : Ext w W) (uo : Value) (ho : Ints .u64 W uo (oneL n)) => pRows (c := n) (hv.ext hW) ho ((oneL_rng (p := 101) (by decide) n).u64 (by decide)) hp (oneL_len n) ⟨h0, h1⟩ h0 h1
  have C4 := hid fun (W : World) (um vx : Value) (hm : Ints .u64 W um (rowsL p n (oneL n))) (hx : Ints .u64 W vx (tab n F)) => rowsOne_times hp hR (by decide) ▸ mxTimes_yes 101 n n um vx _ _ W (rowsOne_ok hp h0 h1) hm hx hR (tab_len _ _)
  have C5 := hid fun (W : World) (hW : Ext w W) (vx : Value) (hx : Ints .u64 W vx (tab n F)) => pDo (hv.ext hW) hx hV hp (tab_len _ _) h0 h1
  have C6 := hid fun (W : World) (um vx : Value) (hm : Ints .u64 W um (rowsL p n (oneL n))) (hx : Ints .u64 W vx (tab n F)) => rowsOne_left hp hR (by decide) ▸ mxLeft_yes 101 n n um vx _ _ W (rowsOne_ok hp h0 h1) hm hx hR (tab_len _ _)
  have C7 := hid fun (W : World) (hW : Ext w W) => pBack (hv.ext hW) hp h0 h1
  have C8 := hid fun (W : World) (vb vx : Value) (hb : Ints .i64 W vb (backL p)) (hx : Ints .u64 W vx (tab n F)) => pDo hb hx hV hp.back (tab_len _ _) h0 h1
  have C9 := hid fun (W : World) (vb : Value) (hb : Ints .i64 W vb (backL p)) => hp.back_back ▸ pBack hb hp.back h0 h1
  have CP := hid hv
  obtain ⟨a, cap, rfl, k1, k2, k3⟩ := hv
  obtain ⟨a', cap', rfl, m1, m2, m3⟩ := hu
  rw [hp2] at C1 C3 C5 C7 CP k1 ⊢
  rw [hl] at m1 m3 ⊢
  obtain ⟨b, off, rfl, hb, hcell⟩ := m3 h0
  have HC := hid hcell
  have HX := hid hx
  have Hl := hid hl
  clear k3 m3 hcell hx hR hV hF hp2 hp hl
  unfold RetN matV at C2 C3
  unfold matV at C4 C6
  go_enter Try.func6, Try.ntmps6
  go_wp2_with fail
  refine (awake06 _).mono ?_
  rintro _ w1 ⟨rfl, x1⟩
  go_wp2_with fail
  refine (C1.out _ x1).mono ?_
  rintro _ w2 ⟨rfl, x2⟩
  have y2 := x1.trans x2
  clear x1 x2
  go_wp2_with fail
  go_loopw [6, 5] (fun iv rv wr => ∃ k : Nat, iv = .int .i64 k ∧ k ≤ n ∧ Hid (wr.ownsRow w.heap.size 55 1 rv k ((tab k F).map (Value.int .u64))) ∧ Ext w wr) (fun iv _ _ => n - (intOf iv).toNat)
  case atStart => exact ⟨0, rfl, Nat.zero_le _, hid (World.ownsRow_nil _ _ _ _), y2⟩
  case round =>
    obtain ⟨k, rfl, hk, hown, hxr⟩ := hrel
    have hsz := hxr.size
    by_cases hlt : k < n
    · have g1 := (hxr.cells _ _ hb).trans (HC.out k hlt)
      have hr := HX.out.get (k := k) (by rw [Hl.out]; exact hlt)
      have hFk := HF.out k
      have happ := hid (show ((tab k F).map (Value.int .u64)) ++ [Value.int .u64 (F k)] = (tab (k + 1) F).map (Value.int .u64) by rw [tab_succ, List.map_append]; rfl)
      obtain ⟨y, ey⟩ : ∃ y, F k = y := ⟨_, rfl⟩
      rw [ey] at happ hFk
      obtain ⟨z, ez⟩ : ∃ z, x.getD k 0 = z := ⟨_, rfl⟩
      rw [ez] at g1 hr hFk
      clear ey ez
      go_wp2_with (first | (at_builtin; refine wpList_append_own _ rfl _ _ 23 rfl w.heap.size 55 i0 (.int .u64 0) 1 8 Try.underlying23 hI hz0 hz1 hz2 rfl (by decide) _ _ _ rfl (hown.out.alloc _) ⟨wr.heap.size, 0, none⟩ 1 1 [.int .u64 y] rfl rfl (cells_new _ _ _ (by simp)) (by simp [Value.oneCell']) (by simp only [maxLen]; omega) (by omega) (by simp; omega) ?_; intro v' w6 hown6 hgrow6 hnil6) | fail)
      go_roundw
      case rel => exact ⟨k + 1, by go_num, by omega, hid (by rw [← happ.out]; exact hown6), (hxr.alloc _).grown hgrow6 (fun t e => (hown.out.lt t e).1)⟩
      case measure => simp [intOf]; omega
    · obtain rfl : k = n := by omega
      obtain ⟨a5, c5, rfl, c52, hIv⟩ := owns_ints hown.out
      have HV := hid hIv
      clear hIv c52 hown HC HX Hl HF hlt hsz
      have yr := hxr
      go_wp2_with fail
      refine (C2.out _).mono ?_
      rintro _ w3 ⟨vO, rfl, iO, xw3⟩
      have IO := hid iO
      obtain ⟨aO, kO, rfl, _, _, kk⟩ := iO
      clear kk
      have z2 := (Ext.refl w3).alloc (.cells #[.int .i64 (k : Int), .int .i64 (k : Int), .slice aO (oneL k).length kO] 25)
      have HO := hid (Blk.new w3 25 #[.int .i64 (k : Int), .int .i64 (k : Int), .slice aO (oneL k).length kO])
      obtain ⟨ho_0, ho_1, ho_2⟩ := HO.out.at3
      go_wp2_with fail
      refine (C3.out _ (yr.trans (xw3.trans z2)) _ (IO.out.ext z2)).mono ?_
      rintro _ w4 ⟨vM, rfl, iM, xw4⟩
      clear ho_0 ho_1 ho_2
      have IM := hid iM
      obtain ⟨aM, kM, rfl, _, _, kk⟩ := iM
      clear kk
      have z4 := (Ext.refl w4).alloc (.cells #[.int .i64 (k : Int), .int .i64 (k : Int), .slice aM (rowsL p k (oneL k)).length kM] 25)
      have HM := hid (Blk.new w4 25 #[.int .i64 (k : Int), .int .i64 (k : Int), .slice aM (rowsL p k (oneL k)).length kM])
      obtain ⟨hm_0, hm_1, hm_2⟩ := HM.out.at3
      go_wp2_with fail
      refine (C4.out _ _ _ (IM.out.ext z4) (HV.out.ext (xw3.trans (z2.trans (xw4.trans z4))))).mono ?_
      rintro _ w5 ⟨vA, rfl, iA, xw5⟩
      clear hm_0 hm_1 hm_2
      have IA := hid iA
      clear iA
      go_wp2_with fail
      refine (C5.out _ (yr.trans (xw3.trans (z2.trans (xw4.trans (z4.trans xw5))))) _ (HV.out.ext (xw3.trans (z2.trans (xw4.trans (z4.trans xw5)))))).mono ?_
      rintro _ w6 ⟨vB, rfl, iB, xw6⟩
      have IB := hid iB
      clear iB
      obtain ⟨hm_0, hm_1, hm_2⟩ := (HM.out.ext (xw5.trans xw6)).at3
      go_wp2_with fail
      refine (C6.out _ _ _ (IM.out.ext (z4.trans (xw5.trans xw6))) (HV.out.ext (xw3.trans (z2.trans (xw4.trans (z4.trans (xw5.trans xw6))))))).mono ?_
      rintro _ w7 ⟨vC, rfl, iC, xw7⟩
      clear hm_0 hm_1 hm_2
      have IC := hid iC
      clear iC
      go_wp2_with fail
      refine (C7.out _ (yr.trans (xw3.trans (z2.trans (xw4.trans (z4.trans (xw5.trans (xw6.trans xw7)))))))).mono ?_
      rintro _ w8 ⟨vK, rfl, iK, xw8⟩
      have IK := hid iK
      clear iK
      go_wp2_with fail
      refine (C8.out _ _ _ IK.out (HV.out.ext (xw3.trans (z2.trans (xw4.trans (z4.trans (xw5.trans (xw6.trans (xw7.trans xw8))))))))).mono ?_
      rintro _ w9 ⟨vD, rfl, iD, xw9⟩
      have ID := hid iD
      clear iD
      go_wp2_with fail
      refine (C9.out _ _ (IK.out.ext xw9)).mono ?_
      rintro _ w10 ⟨vG, rfl, iG, xw10⟩
      have IG := hid iG
      clear iG
      go_wp2_with fail
      refine (same_yes _ _ _ _ (IA.out.ext (xw6.trans (xw7.trans (xw8.trans (xw9.trans xw10))))) (IB.out.ext (xw7.trans (xw8.trans (xw9.trans xw10))))).mono ?_
      rintro _ w11 ⟨rfl, xw11⟩
      go_wp2_with fail
      refine (same_yes _ _ _ _ (IC.out.ext (xw8.trans (xw9.trans (xw10.trans xw11)))) (ID.out.ext (xw10.trans xw11))).mono ?_
      rintro _ w12 ⟨rfl, xw12⟩
      go_wp2_with fail
      refine (r6Same_yes _ _ _ _ (IG.out.ext (xw11.trans xw12)) (CP.out.ext (yr.trans (xw3.trans (z2.trans (xw4.trans (z4.trans (xw5.trans (xw6.trans (xw7.trans (xw8.trans (xw9.trans (xw10.trans (xw11.trans xw12)))))))))))))).mono ?_
      rintro _ w13 ⟨rfl, xw13⟩
      go_wp2_with fail
      go_ret
      exact ⟨rfl, (yr.trans (xw3.trans (z2.trans (xw4.trans (z4.trans (xw5.trans (xw6.trans (xw7.trans (xw8.trans (xw9.trans (xw10.trans (xw11.trans (xw12.trans xw13)))))))))))))⟩

/-- the law answers true -/
theorem walk (v : Value) (p : List Int) (u : Value) (x : List Int) (w : World) (hv : Ints .i64 w v p) (hx : ∀ x ∈ p, (Lit.int .i64 x).wf = true) (hu : Ints .u64 w u x) (hy : ∀ y ∈ x, (Lit.int .u64 y).wf = true) :
    Calls Try.prog 6 #[v, u] w (Ret (.bool true) w) := by
  have hx' : I64s p := fun x h => i64_wf (hx x h)
  have hy' : U64s x := fun x h => u64_wf (hy x h)
  cases h : (ordB p && decide (x.length = p.length)) with
  | false => exact walk_skip v u p x w hv hx' hu h
  | true =>
    simp only [Bool.and_eq_true, decide_eq_true_eq] at h
    obtain ⟨g1, g3⟩ := h
    obtain ⟨a1, a2, a3⟩ := ordB_iff.1 g1
    exact walk_yes v u p.length p x w hv hu hy' a3 g3 a1 a2

theorem own : ownKnob Try.prog.godebug = none := by kernel_rfl
set_option maxRecDepth 100000 in
theorem lifted (os : Os) (started : os.Started) (H : Type) (enc : TypeId × Value → H) :
    ReturnsInHanded {} Try.checked os 6 .any (Rows.permMatrixSpec.pre6 enc Try.prog Try.f6 Rows.permMatrixRow.domain false) (Rows.permMatrixSpec.post enc Try.prog Try.f6 false true false false) := by
  refine returnsInHanded_of_change (C := Try.checked) own started (by kernel_rfl) Try.func6
    (ChangeSpec.witness6 (enc := enc) (C := Try.checked) false ⟨#[], #[.slice none 0 0, .slice none 0 0], []⟩ 8 (by kernel_rfl) (by kernel_rfl) (by kernel_rfl) (by kernel_rfl)) ?_
  intro W base args ds gs before hval0 hW _ _
  have hval : ∀ (j : Nat) t v, Try.f6.params[j]? = some t → args[j]? = some v → Value.okWide Try.prog W .any base t v := hval0
  have hW' := hW
  obtain ⟨p, q, hA0, hV, rfl, _, _⟩ := hW
  have hA : DataW.TrodAll enc Try.prog W 0 (fun _ => true) true Try.f6.params.toList args.toList ds p := hA0
  rw [Try.params6] at hA hval
  obtain ⟨v0, vs0, d0, ds0, p0, q0, hargs, rfl, rfl, h0, r0⟩ := trodAll_cons hA
  obtain ⟨v1, vs1, d1, ds1, p1, q1, rfl, rfl, rfl, h1, r1⟩ := trodAll_cons r0
  obtain ⟨rfl, rfl, rfl⟩ := trodAll_nil r1
  obtain rfl : args = #[v0, v1] := by cases args; simp_all
  obtain ⟨rfl, rfl⟩ := trodVars_none hV
  obtain ⟨xs0, i0, w0⟩ := open_Ints Try.underlying22 Try.underlying3 (by kernel_rfl) (hval 0 22 v0 rfl rfl) h0
  obtain ⟨xs1, i1, w1⟩ := open_Ints Try.underlying23 Try.underlying55 (by kernel_rfl) (hval 1 23 v1 rfl rfl) h1
  refine (walk v0 xs0 v1 xs1 W i0 w0 i1 w1).mono fun e W' ⟨he, hg⟩ => ⟨_, he, ?_⟩
  exact law_post (by kernel_rfl) (by kernel_rfl) rfl Try.underlying4 rfl rfl hW' hg

/-- the statement -/
theorem proved : Rows.PermMatrixSaid :=
  OpenClaim.holds_of_wide 6 Try.f6 rfl rfl rfl rfl rfl rfl rfl ⟨rfl, rfl, rfl, rfl, rfl⟩ rfl rfl rfl rfl rfl (by kernel_rfl) Try.func6 (by kernel_rfl)
    (of_decide_eq_true (by kernel_rfl)) (by unfold Func.isWrapper; first | (rw [if_pos (by decide +kernel)]; kernel_rfl) | (rw [if_neg (by decide +kernel)]; exact ⟨rfl, rfl⟩))
    (fun os started H enc _ => lifted os started H enc)
end Go.Proofs.Ytalkbmnbggclpaa.permMatrix
