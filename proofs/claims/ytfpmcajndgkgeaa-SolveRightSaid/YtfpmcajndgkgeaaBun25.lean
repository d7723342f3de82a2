/- What the texts R8Rows, R8None, R8Left, R8Against show, in one text. -/
import Derived.Test.YtfpmcajndgkgeaaBun24
import Derived.Test.YtfpmcajndgkgeaaBun06
/- The document's own answer of layer 8: Rows. -/
namespace Go.Proofs.Ytfpmcajndgkgeaa
open Go.RowKit Go.Maps

theorem r8CramT (p : Int) (m n : Nat) (v u : Value) (xs b : List Int) (w : World) (ok : MatOk p m n xs) (hf : Fld p) (hv : Ints .u64 w v (turnL (takeL p m n xs).U.length (takeL p m n xs).U.length (coreL p m n xs))) (hu : Ints .u64 w u b) (hb : Rng p b) (hbl : b.length = (takeL p m n xs).U.length) :
    Calls Try.prog 64 #[.int .u64 p, matV (takeL p m n xs).U.length (takeL p m n xs).U.length v, u] w (RetL (crL p (takeL p m n xs).U.length (turnL (takeL p m n xs).U.length (takeL p m n xs).U.length (coreL p m n xs)) b) w) := by
  have hp := (rightB_true ok.hp).1
  have h := takeL_ok (m := m) (n := n) hp hf ok.hx
  have hle := h.le
  have hm := ok.hm
  exact r8Cramer p _ v u _ b w ok.hp hf hv hu (turnL_rng hp (coreL_rng hp ok.hx) _ _) hb (turnL_len _ _ _) hbl (by omega) (by rw [det_turned hp hf (coreL_rng hp ok.hx)]; exact core_det hp hf ok.hx)
theorem r8Turn (p : Int) (m n : Nat) (v : Value) (xs : List Int) (w : World) (ok : MatOk p m n xs) (hf : Fld p) (hv : Ints .u64 w v (coreL p m n xs)) :
    Calls Try.prog 68 #[matV (takeL p m n xs).U.length (takeL p m n xs).U.length v] w (RetM (takeL p m n xs).U.length (takeL p m n xs).U.length (turnL (takeL p m n xs).U.length (takeL p m n xs).U.length (coreL p m n xs)) w) := by
  have hp := (rightB_true ok.hp).1
  have h := takeL_ok (m := m) (n := n) hp hf ok.hx
  have hle := h.le
  have hm := ok.hm
  exact rmTurn _ _ v _ w hv (by omega) (by omega) coreL_len
set_option maxRecDepth 100000 in
set_option maxHeartbeats 4000000 in
theorem r8Rows (p : Int) (m n : Nat) (v : Value) (xs : List Int) (I : Nat) (w : World) (ok : MatOk p m n xs) (hf : Fld p) (hv : Ints .u64 w v xs) (hI : I < m) (hIr : I ∉ (takeL p m n xs).rows) :
    Calls Try.prog 23 #[.int .u64 p, matV m n v, .int .i64 (I : Int)] w (RetE 0 (solY p m n xs I) w) := by
  have hp2 := rightB_true ok.hp
  obtain ⟨i0, hi, hz0, hz1, hz2⟩ := info_parts info_u64p
  have hm := ok.hm; have hn := ok.hn
  have h := takeL_ok (m := m) (n := n) hp2.1 hf ok.hx
  have C1 := hid fun (W : World) (hW : Ext w W) => r7Take p m n v xs W ok hf (hv.ext hW)
  have C2 := hid fun (W : World) (rv cv Cv Uv : Value) (hW : Ext w W) (hR : Ints .i64 W rv (rowsZ (takeL p m n xs))) (hK : Ints .i64 W cv (colsZ (takeL p m n xs))) => r8CoreL p m n v rv cv Cv Uv xs W ok hf (hv.ext hW) hR hK
  have C3 := hid fun (W : World) (v' u' : Value) (hv' : Ints .u64 W v' (turnL (takeL p m n xs).U.length (takeL p m n xs).U.length (coreL p m n xs))) (hu' : Ints .u64 W u' (ownY p m n xs I)) => r8CramT p m n v' u' xs (ownY p m n xs I) W ok hf hv' hu' (neg_rng hp2.1 _) (tab_len _ _)
  have C4 := hid fun (W : World) (v' : Value) (hv' : Ints .u64 W v' (coreL p m n xs)) => r8Turn p m n v' xs W ok hf hv'
  have CF6 := hid fun (W : World) (rv : Value) (h : Ints .i64 W rv (rowsZ (takeL p m n xs))) => r6Find rv (rowsZ (takeL p m n xs)) (I : Int) W h
  obtain ⟨z, ez⟩ : ∃ z, findZ (rowsZ (takeL p m n xs)) (I : Int) = z := ⟨_, rfl⟩
  have hneg : z < 0 := by
    rw [← ez]
    exact Int.not_le.1 fun h => hIr (findZ_cols.1 h)
  have t0 : decide ((0 : Int) ≤ z) = false := decide_eq_false (by omega)
  rw [ez] at CF6
  have CAt := hid fun (k : Nat) (hk : k < (takeL p m n xs).U.length) => (show ∃ y, (∀ W, Ext w W → Calls Try.prog 33 #[matV m n v, .int .i64 (I : Int), .int .i64 (((takeL p m n xs).cols.getD k 0 : Nat) : Int)] W (Ret (.int .u64 y) W)) ∧ ∀ W, Calls Try.prog 32 #[.int .u64 p, .int .u64 0, .int .u64 y] W fun e w' => e = .returned (.int .u64 ((0 - xs.getD (I * n + (takeL p m n xs).cols.getD k 0) 0) % p)) ∧ W = w' from by
    have hlow := (h.row k hk).2.2.1
    have hg := ok.hx.getD hp2.1 (I * n + (takeL p m n xs).cols.getD k 0)
    exact ⟨_, fun W hW => rmAt m n v xs I _ n W (hv.ext hW) rfl (by omega) (by omega) (by omega) (by rw [ok.hl]; exact at_lt hI hlow), fun W => rSub p 0 _ _ W ok.hp (by omega) (by omega) hg.1 hg.2 rfl⟩)
  have hr64 : (takeL p m n xs).U.length ≤ 64 := by have := h.le; omega
  have lR : (rowsZ (takeL p m n xs)).length = (takeL p m n xs).U.length := by simp [rowsZ, h.lr]
  have lK : (colsZ (takeL p m n xs)).length = (takeL p m n xs).U.length := by simp [colsZ, h.lk]
  have HRl := hid fun k (hk : k < (takeL p m n xs).U.length) => (show (rowsZ (takeL p m n xs)).getD k 0 = (((takeL p m n xs).rows.getD k 0 : Nat) : Int) ∧ (takeL p m n xs).rows.getD k 0 < m from ⟨mapZ_get _ _, h.low k (by rw [h.lr]; exact hk)⟩)
  have HKl := hid fun k (hk : k < (takeL p m n xs).U.length) => (show (colsZ (takeL p m n xs)).getD k 0 = (((takeL p m n xs).cols.getD k 0 : Nat) : Int) ∧ (takeL p m n xs).cols.getD k 0 < n from ⟨mapZ_get _ _, (h.row k hk).2.2.1⟩)
  obtain ⟨Z, eZ⟩ : ∃ Z, crL p (takeL p m n xs).U.length (turnL (takeL p m n xs).U.length (takeL p m n xs).U.length (coreL p m n xs)) (ownY p m n xs I) = Z := ⟨_, rfl⟩
  have lZ : Z.length = (takeL p m n xs).U.length := by rw [← eZ]; exact crL_len _ _
  rw [eZ] at C3
  have hX : solY p m n xs I = setsL ((List.replicate m 0).set I 1) (takeL p m n xs).rows Z (takeL p m n xs).U.length := by rw [← eZ]; rfl
  have HX := hid hX
  have hob : ownY p m n xs I = tab (takeL p m n xs).U.length fun k => (0 - xs.getD (I * n + (takeL p m n xs).cols.getD k 0) 0) % p := rfl
  obtain ⟨Gf, hG⟩ : ∃ Gf : Nat → Int, (fun k => (0 - xs.getD (I * n + (takeL p m n xs).cols.getD k 0) 0) % p) = Gf := ⟨_, rfl⟩
  have HG := hid fun k => (congrFun hG k : (0 - xs.getD (I * n + (takeL p m n xs).cols.getD k 0) 0) % p = Gf k)
  simp only [HG.out] at CAt
  rw [hG] at hob
  rw [hob] at C3
  obtain ⟨Rw, eR⟩ : ∃ Rw, rowsZ (takeL p m n xs) = Rw := ⟨_, rfl⟩
  rw [eR] at C1 C2 lR HRl CF6
  obtain ⟨Kw, eK⟩ : ∃ Kw, colsZ (takeL p m n xs) = Kw := ⟨_, rfl⟩
  rw [eK] at C1 C2 lK HKl
  obtain ⟨rs, ers⟩ : ∃ rs, (takeL p m n xs).rows = rs := ⟨_, rfl⟩
  rw [ers] at HRl HX
  obtain ⟨cs, ecs⟩ : ∃ cs, (takeL p m n xs).cols = cs := ⟨_, rfl⟩
  rw [ecs] at HKl HG CAt
  obtain ⟨r, er⟩ : ∃ r, (takeL p m n xs).U.length = r := ⟨_, rfl⟩
  rw [er] at C2 C3 C4 CAt hr64 lR lK HRl HKl lZ HX
  obtain ⟨co, eco⟩ : ∃ co, coreL p m n xs = co := ⟨_, rfl⟩
  rw [eco] at C2 C3 C4
  obtain ⟨ct, ect⟩ : ∃ ct, turnL r r co = ct := ⟨_, rfl⟩
  rw [ect] at C3 C4
  obtain ⟨X, eX⟩ : ∃ X, solY p m n xs I = X := ⟨_, rfl⟩
  rw [eX] at HX ⊢
  have lX : X.length = m := by rw [← eX]; exact solY_len
  obtain ⟨a, cap, rfl, k1, k2, k3⟩ := hv
  have LX := hid lX; have LZ := hid lZ; have LR := hid lR; have LK := hid lK
  have hmk := make_ints (P := Try.prog) 23 22 .u64 8 (by omega) (by kernel_rfl) (by kernel_rfl) m m (Nat.le_refl _) (by omega)
  have g0m := made_getR hI
  have hA := hid (Blk.new w 25 #[.int .i64 (m : Int), .int .i64 (n : Int), .slice a xs.length cap])
  obtain ⟨b0, b1, b2⟩ := hA.out.at3
  have hmx : Try.prog.follows .mixedOrders = true := by kernel_rfl
  unfold matV at C1 C2 C3 C4 CAt
  unfold matV
  clear k3 ok hf h hX hob hG eR eK ers ecs er eco eX lX lZ lR lK eZ ez ect hIr HG
  go_enter Try.func23, Try.ntmps23
  go_upto_region 2 with (first
    | (go_at_call 63; refine (C1.out _ (by repeat (first | exact Ext.refl _ | assumption | refine Ext.drew ?_ | refine Ext.drewN ?_ _ | refine Ext.alloc ?_ _ | refine Ext.trans ?_ (by assumption)))).mono ?_; rintro _ w2 ⟨rv, cv, a1, l1, q1, a2, l2, q2, rfl, h1, h2, x2⟩
       have H1 := hid h1; have H2 := hid h2
       obtain ⟨ar, cr, rfl, r1, r2, r3⟩ := h1
       obtain ⟨ak, ck, rfl, c1, c2, c3⟩ := h2
       rw [LR.out] at H1 r1 r3 ⊢
       rw [LK.out] at H2 c1 c3 ⊢
       have R3 := hid r3; have K3 := hid c3
       clear r3 c3))
  obtain ⟨w3, hw3⟩ : ∃ w3, w2.alloc (.cells #[.slice ar r cr, .slice ak r ck, .slice a1 l1 q1, .slice a2 l2 q2] 71) = w3 := ⟨_, rfl⟩
  have x3 : Ext w2 w3 := hw3 ▸ (Ext.refl w2).alloc _
  have hC3 : Blk w3 w2.heap.size 71 #[.slice ar r cr, .slice ak r ck, .slice a1 l1 q1, .slice a2 l2 q2] := hw3 ▸ Blk.new _ _ _
  have hX3 : Ext w w3 := Ext.trans (by repeat (first | exact Ext.refl _ | assumption | refine Ext.drew ?_ | refine Ext.drewN ?_ _ | refine Ext.alloc ?_ _ | refine Ext.trans ?_ (by assumption))) x3
  have X3 := hid hX3; have HC := hid hC3; have HA3 := hid ((hA.out.ext x2).ext x3)
  have R1 := hid (H1.out.ext x3); have K1 := hid (H2.out.ext x3)
  have hwT : w2.heap.size < w3.heap.size := hC3.lt
  have hwH : w.heap.size < w2.heap.size := by
    have h := x2.size
    simp at h; omega
  rw [hw3]
  obtain ⟨T, hT⟩ : ∃ T, w2.heap.size = T := ⟨_, rfl⟩
  rw [hT] at HC hwT hwH
  rw [hT]
  obtain ⟨H, hH⟩ : ∃ H, w.heap.size = H := ⟨_, rfl⟩
  rw [hH] at HA3 hwH
  rw [hH]
  have hbR := hid fun i (hi : i < r) => (show ∃ b o, ar = some ⟨b, o, none⟩ ∧ b < w3.heap.size ∧ w3.cell? ⟨b, o + i, none⟩ = some (.int .i64 ((rs.getD i 0 : Nat) : Int)) from by
    obtain ⟨b', o', e, hb, hc⟩ := R3.out (by omega)
    have := hc i hi
    rw [(HRl.out i hi).1] at this
    exact ⟨b', o', e, Nat.lt_of_lt_of_le hb x3.size, (x3.cells _ _ hb).trans this⟩)
  have hbK := hid fun i (hi : i < r) => (show ∃ b o, ak = some ⟨b, o, none⟩ ∧ b < w3.heap.size ∧ w3.cell? ⟨b, o + i, none⟩ = some (.int .i64 ((cs.getD i 0 : Nat) : Int)) from by
    obtain ⟨b', o', e, hb, hc⟩ := K3.out (by omega)
    have := hc i hi
    rw [(HKl.out i hi).1] at this
    exact ⟨b', o', e, Nat.lt_of_lt_of_le hb x3.size, (x3.cells _ _ hb).trans this⟩)
  clear hw3 x3 hC3 hX3 C1 H1 H2 b0 b1 b2 hT hA hH
  obtain ⟨p0, p1, p2, p3⟩ := HC.out.at4
  go_wp2_with (first
    | (go_at_call 67; refine (CF6.out _ _ R1.out).mono ?_; rintro _ wg ⟨rfl, hdg⟩; have xg := hdg.ext; obtain ⟨e0, e1, e2⟩ := (HA3.out.ext xg).at3))
  clear e0 e1 e2 p0 p1 p2 p3
  have XG := hid xg
  go_loopw [11, 10] (fun iv ov wr => ∃ i : Nat, iv = .int .i64 i ∧ i ≤ r ∧ Hid (wr.ownsRow w3.heap.size 22 1 ov i ((tab i Gf).map (Value.int .u64))) ∧ Ext w3 wr) (fun iv _ _ => r - (intOf iv).toNat)
  case atStart => exact ⟨0, rfl, Nat.zero_le _, hid (World.ownsRow_nil _ _ _ _), XG.out⟩
  case round =>
    obtain ⟨i, rfl, hi', hown, hxr⟩ := hrel
    rename World => wr
    have hsz := hxr.size
    have p0 := (HC.out.ext hxr).cell 1
    by_cases hlt : i < r
    · obtain ⟨br, orr, rfl, hbr, hcr⟩ := hbK.out i hlt
      have hcm := (HKl.out i hlt).2
      have CA := hid (CAt.out i hlt)
      have happ := hid (show ((tab i Gf).map (Value.int .u64)) ++ [Value.int .u64 (Gf i)] = (tab (i + 1) Gf).map (Value.int .u64) by rw [tab_succ, List.map_append]; rfl)
      obtain ⟨c, ec⟩ : ∃ c, cs.getD i 0 = c := ⟨_, rfl⟩
      rw [ec] at hcr hcm CA
      obtain ⟨s, es⟩ : ∃ s, Gf i = s := ⟨_, rfl⟩
      rw [es] at happ CA
      have HCR := hid hcr
      have CF := hid fun (W' : World) (hS : Ext w3 W') => (show (W'.cell? ⟨H, 0, none⟩ = some (.int .i64 (m : Int)) ∧ W'.cell? ⟨H, 1, none⟩ = some (.int .i64 (n : Int)) ∧ W'.cell? ⟨H, 2, none⟩ = some (.slice a xs.length cap)) ∧ W'.cell? ⟨T, 1, none⟩ = some (.slice (some ⟨br, orr, none⟩) r ck) ∧ W'.cell? ⟨br, orr + i, none⟩ = some (.int .i64 (c : Int)) from by
        have h1 := HA3.out.ext hS
        exact ⟨⟨h1.cell 0, h1.cell 1, h1.cell 2⟩, (HC.out.ext hS).cell 1, (hS.cells _ _ hbr).trans HCR.out⟩)
      clear hcr ec es
      go_upto_region 8 with fail
      clear p0
      refine wp_region_held_drew (S := fun W' => Ext w3 W') hmx hxr.drew (fun hHeld => ?_)
      refine wpAnyH_take (i := 0) (v := u10) rfl (by kernel_rfl) (by kernel_rfl) (by kernel_rfl) (fun _ _ _ h => h) (Or.inl ⟨by rfl, ?_⟩) hHeld ?_
      · intro W' hSw
        skip
        go_simp
      refine wpAnyH_take (i := 1) (v := .int .u64 p) rfl (by kernel_rfl) (by kernel_rfl) (by kernel_rfl) (fun _ _ _ h => h) (Or.inl ⟨by rfl, ?_⟩) hHeld ?_
      · intro W' hSw
        skip
        go_simp
      refine wpAnyH_take (i := 2) (v := .agg #[.int .i64 (m : Int), .int .i64 (n : Int), .slice a xs.length cap]) rfl (by kernel_rfl) (by kernel_rfl) (by kernel_rfl) (fun _ _ _ h => h) (Or.inl ⟨by rfl, ?_⟩) hHeld ?_
      · intro W' hSw
        obtain ⟨⟨q0, q1, q2⟩, -, -⟩ := CF.out W' hSw
        go_simp
      refine wpAnyH_take (i := 3) (v := .int .i64 (I : Int)) rfl (by kernel_rfl) (by kernel_rfl) (by kernel_rfl) (fun _ _ _ h => h) (Or.inl ⟨by rfl, ?_⟩) hHeld ?_
      · intro W' hSw
        skip
        go_simp
      refine wpAnyH_take (i := 4) (v := .pointer (some ⟨T, 1, none⟩)) rfl (by kernel_rfl) (by kernel_rfl) (by kernel_rfl) (fun _ _ _ h => h) (Or.inl ⟨by rfl, ?_⟩) hHeld ?_
      · intro W' hSw
        skip
        go_simp
      refine wpAnyH_take (i := 5) (v := .slice (some ⟨br, orr, none⟩) r ck) rfl (by kernel_rfl) (by kernel_rfl) (by kernel_rfl) (fun _ _ _ h => h) (Or.inl ⟨by rfl, ?_⟩) hHeld ?_
      · intro W' hSw
        have q2 := (CF.out W' hSw).2.1
        go_simp
      refine wpAnyH_take (i := 6) (v := .int .i64 (i : Int)) rfl (by kernel_rfl) (by kernel_rfl) (by kernel_rfl) (fun _ _ _ h => h) (Or.inl ⟨by rfl, ?_⟩) hHeld ?_
      · intro W' hSw
        skip
        go_simp
      refine wpAnyH_take (i := 7) (v := .pointer (some ⟨br, orr + i, none⟩)) rfl (by kernel_rfl) (by kernel_rfl) (by kernel_rfl) (fun _ _ _ h => h) (Or.inl ⟨by rfl, ?_⟩) hHeld ?_
      · intro W' hSw
        skip
        go_simp
      refine wpAnyH_take (i := 8) (v := .int .i64 (c : Int)) rfl (by kernel_rfl) (by kernel_rfl) (by kernel_rfl) (fun _ _ _ h => h) (Or.inl ⟨by rfl, ?_⟩) hHeld ?_
      · intro W' hSw
        have q3 := (CF.out W' hSw).2.2
        go_simp
      refine held_step 9 (by kernel_rfl) rfl (fun K hK => ?_)
      go_simp
      go_wp2_with fail
      obtain ⟨y, CA1, CA2⟩ := CA.out
      refine (CA1 _ (X3.out.trans hxr.drew)).mono ?_
      rintro _ w5 ⟨rfl, x5⟩
      have X5 : Ext wr w5 := Ext.trans (Ext.refl wr).drew x5
      go_wp2_with fail
      refine hK.out _ _ (hxr.trans X5) (fun hHeld => ?_)
      clear hK K
      refine held_step 10 (by kernel_rfl) rfl (fun K hK => ?_)
      go_simp
      go_wp2_with fail
      refine (CA2 _).mono ?_
      rintro _ _ ⟨rfl, rfl⟩
      go_wp2_with fail
      refine hK.out _ _ (hxr.trans X5) (fun hHeld => ?_)
      clear hK K
      refine held_step 11 (by kernel_rfl) rfl (fun K hK => ?_)
      go_simp
      have X6 : Ext wr (w5.alloc (.cells #[.int .u64 s] 22)) := X5.alloc _
      refine hK.out _ _ (hxr.trans X6) (fun hHeld => ?_)
      clear hK K
      refine held_step 12 (by kernel_rfl) rfl (fun K hK => ?_)
      have hs6 : w3.heap.size ≤ (w5.alloc (.cells #[.int .u64 s] 22)).heap.size := (hxr.trans X6).size
      refine step_append_at _ rfl (.tmp 33) (.tmp 44) 23 rfl w3.heap.size 22 i0 (.int .u64 0) 1 8 Try.underlying23 hi hz0 hz1 hz2 rfl (by decide) u10 i ((tab i Gf).map (Value.int .u64)) (by simp [Act.eval]) (ownsRow_ext hown.out X6) ⟨w5.heap.size, 0, none⟩ 1 1 [.int .u64 s] (by simp [Act.eval]) rfl (cells_new _ _ _ rfl) (by simp [Value.oneCell']) (by simp only [maxLen]; omega) (by omega) hs6 ?_
      intro v6 w6 hown6 hgrow6 hat6
      rw [happ.out] at hown6
      have Hown6 := hid hown6
      have hw6 : Ext w3 w6 := (hxr.trans X6).grown hgrow6 (fun k e => (hown.out.lt k e).1)
      obtain ⟨a6, c6, rfl, -, -, -⟩ := WRow.of_owns hown6
      clear hown6 hgrow6 hat6
      refine hK.out _ _ hw6 (fun hHeld => ?_)
      clear hK K
      refine wpAnyH_take (i := 13) (v := .slice a6 (i + 1) c6) rfl (by kernel_rfl) (by kernel_rfl) (by kernel_rfl) (fun _ _ _ h => h) (Or.inl ⟨by rfl, ?_⟩) hHeld ?_
      · intro W' hSw
        go_simp
      refine wpAnyH_done (by kernel_rfl) ?_ _
      clear CF
      go_wp2_with fail
      go_roundw
      case rel => exact ⟨i + 1, by go_num, by omega, Hown6, hw6⟩
      case measure => simp [intOf]; omega
    · obtain rfl : r = i := by omega
      obtain ⟨ao, co', rfl, -, hI⟩ := owns_ints hown.out
      have HI := hid hI
      have hA4 := HA3.out.ext hxr
      have hC4 := HC.out.ext hxr
      obtain ⟨b0, b1, b2⟩ := hA4.at3
      obtain ⟨p0, p1, p2, p3⟩ := hC4.at4
      clear hI hA4 hC4
      go_upto_region 12 with (first
        | (go_at_call 65; refine (C2.out _ _ _ _ _ (X3.out.trans hxr) (R1.out.ext hxr) (K1.out.ext hxr)).mono ?_; rintro _ w5 ⟨v5, rfl, hi5, x5⟩
           unfold matV
           have HI5 := hid hi5
           obtain ⟨a5, c5, rfl, -, -, -⟩ := hi5)
        | (go_at_call 68; refine (C4.out _ _ HI5.out).mono ?_; rintro _ w5b ⟨v5b, rfl, hi5b, x5b⟩
           unfold matV
           have HI5 := hid hi5b
           have x5 := x5.trans x5b
           obtain ⟨a5b, c5b, rfl, -, -, -⟩ := hi5b)
        | (go_at_call 64; refine (C3.out _ _ _ HI5.out (HI.out.ext x5)).mono ?_; rintro _ w6 ⟨v6, rfl, hi6, x6⟩
           have HI6 := hid hi6
           obtain ⟨a6, c6, rfl, z1, z2, z3⟩ := hi6
           rw [LZ.out] at HI6 z1 z3 ⊢
           have Z3 := hid z3
           have hA6 := HA3.out.ext ((hxr.trans x5).trans x6)
           obtain ⟨d0, d1, d2⟩ := hA6.at3
           clear hA6 z3))
      have hx36 : Ext w3 w6 := (hxr.trans x5).trans x6
      have HX36 := hid hx36
      obtain ⟨g, hg⟩ : ∃ g, w6.heap.size = g := ⟨_, rfl⟩
      have hW0 := hid (WRow.made1R (t := 22) (n := m) (i := I) (w := w6) (g := g) hg.symm)
      have hs36 := hx36.size
      rw [hg] at hs36
      have HGW := hid hg
      rw [hg]
      clear b0 b1 b2 p0 p1 p2 p3 d0 d1 d2 hx36
      go_wp2_with fail
      go_loopw [14] (fun kv wl => ∃ k : Nat, kv = .int .i64 k ∧ k ≤ r ∧ Hid (WRow wl g 0 (setsL ((List.replicate m 0).set I 1) rs Z k)) ∧ Ext w6 wl) (fun kv _ => r - (intOf kv).toNat)
      case atStart => exact ⟨0, rfl, Nat.zero_le _, hW0, (Ext.refl _).alloc _⟩
      case round =>
        clear hW0
        obtain ⟨k, rfl, hk, HW, hxl⟩ := hrel
        rename World => wl
        have hC7 := HC.out.ext (HX36.out.trans hxl)
        have p1 := hC7.cell 0
        by_cases hlk : k < r
        · obtain ⟨bk, ok2, rfl, hbk, hck⟩ := hbR.out k hlk
          obtain ⟨bz, oz, rfl, hbz, hcz⟩ := Z3.out (by omega)
          have hcn := (HRl.out k hlk).2
          have hsets := hid (show setsL ((List.replicate m 0).set I 1) rs Z (k + 1) = (setsL ((List.replicate m 0).set I 1) rs Z k).set (rs.getD k 0) (Z.getD k 0) from rfl)
          have hzk := hcz k hlk
          obtain ⟨c, ec⟩ : ∃ c, rs.getD k 0 = c := ⟨_, rfl⟩
          rw [ec] at hck hcn hsets
          obtain ⟨y, ey⟩ : ∃ y, Z.getD k 0 = y := ⟨_, rfl⟩
          rw [ey] at hzk hsets
          have HCK := hid hck; have HZK := hid hzk
          have hgz : bz < g := by have := HGW.out; omega
          have hlz := hxl.size
          have CF := hid fun (W' : World) (hS : wl.grownBy W' (some g)) => (show W'.cell? ⟨T, 0, none⟩ = some (.slice (some ⟨bk, ok2, none⟩) r cr) ∧ W'.cell? ⟨bk, ok2 + k, none⟩ = some (.int .i64 (c : Int)) ∧ W'.cell? ⟨bz, oz + k, none⟩ = some (.int .u64 y) from by
            have hs := (HX36.out.trans hxl).size
            exact ⟨(grown_cell' hS (by omega) (by omega)).trans ((HC.out.ext (HX36.out.trans hxl)).cell 0), (grown_cell' hS (by omega) (by omega)).trans (((HX36.out.trans hxl).cells _ _ hbk).trans HCK.out), (grown_cell' hS (by omega) (by omega)).trans ((hxl.cells _ _ hbz).trans HZK.out)⟩)
          clear hck hzk hcz ec ey hC7
          go_upto_region 15 with fail
          clear p1
          refine wp_region_held_drew (S := fun W' => wl.grownBy W' (some g)) hmx (ext_grownBy (Ext.refl wl).drew) (fun hHeld => ?_)
          refine wpAnyH_take (i := 0) (v := .slice (some ⟨g, 0, none⟩) m m) rfl (by kernel_rfl) (by kernel_rfl) (by kernel_rfl) (fun _ _ _ h => h) (Or.inl ⟨by rfl, ?_⟩) hHeld ?_
          · intro W' hSw
            skip
            go_simp
          refine wpAnyH_take (i := 1) (v := .pointer (some ⟨T, 0, none⟩)) rfl (by kernel_rfl) (by kernel_rfl) (by kernel_rfl) (fun _ _ _ h => h) (Or.inl ⟨by rfl, ?_⟩) hHeld ?_
          · intro W' hSw
            skip
            go_simp
          refine wpAnyH_take (i := 2) (v := .slice (some ⟨bk, ok2, none⟩) r cr) rfl (by kernel_rfl) (by kernel_rfl) (by kernel_rfl) (fun _ _ _ h => h) (Or.inl ⟨by rfl, ?_⟩) hHeld ?_
          · intro W' hSw
            have q1 := (CF.out W' hSw).1
            go_simp
          refine wpAnyH_take (i := 3) (v := .int .i64 (k : Int)) rfl (by kernel_rfl) (by kernel_rfl) (by kernel_rfl) (fun _ _ _ h => h) (Or.inl ⟨by rfl, ?_⟩) hHeld ?_
          · intro W' hSw
            skip
            go_simp
          refine wpAnyH_take (i := 4) (v := .pointer (some ⟨bk, ok2 + k, none⟩)) rfl (by kernel_rfl) (by kernel_rfl) (by kernel_rfl) (fun _ _ _ h => h) (Or.inl ⟨by rfl, ?_⟩) hHeld ?_
          · intro W' hSw
            skip
            go_simp
          refine wpAnyH_take (i := 5) (v := .int .i64 (c : Int)) rfl (by kernel_rfl) (by kernel_rfl) (by kernel_rfl) (fun _ _ _ h => h) (Or.inl ⟨by rfl, ?_⟩) hHeld ?_
          · intro W' hSw
            have q2 := (CF.out W' hSw).2.1
            go_simp
          refine wpAnyH_take (i := 6) (v := .slice (some ⟨bz, oz, none⟩) r c6) rfl (by kernel_rfl) (by kernel_rfl) (by kernel_rfl) (fun _ _ _ h => h) (Or.inl ⟨by rfl, ?_⟩) hHeld ?_
          · intro W' hSw
            skip
            go_simp
          refine wpAnyH_take (i := 7) (v := .int .i64 (k : Int)) rfl (by kernel_rfl) (by kernel_rfl) (by kernel_rfl) (fun _ _ _ h => h) (Or.inl ⟨by rfl, ?_⟩) hHeld ?_
          · intro W' hSw
            skip
            go_simp
          refine wpAnyH_take (i := 8) (v := .pointer (some ⟨bz, oz + k, none⟩)) rfl (by kernel_rfl) (by kernel_rfl) (by kernel_rfl) (fun _ _ _ h => h) (Or.inl ⟨by rfl, ?_⟩) hHeld ?_
          · intro W' hSw
            skip
            go_simp
          refine wpAnyH_take (i := 9) (v := .int .u64 y) rfl (by kernel_rfl) (by kernel_rfl) (by kernel_rfl) (fun _ _ _ h => h) (Or.inl ⟨by rfl, ?_⟩) hHeld ?_
          · intro W' hSw
            have q3 := (CF.out W' hSw).2.2
            go_simp
          refine wpAnyH_take (i := 10) (v := .pointer (some ⟨g, c, none⟩)) rfl (by kernel_rfl) (by kernel_rfl) (by kernel_rfl) (fun _ _ _ h => h) (Or.inl ⟨by rfl, ?_⟩) hHeld ?_
          · intro W' hSw
            skip
            go_simp
          refine held_step 11 (by kernel_rfl) rfl (fun K hK => ?_)
          have hl7 : (setsL ((List.replicate m 0).set I 1) rs Z k).length = m := by rw [setsL_len, List.length_set, List.length_replicate]
          have hr7 := HW.out.ext ((Ext.refl wl).drew)
          have hr7c := (hr7.2 c (by rw [hl7]; exact hcn)).1
          have hr7f := (hr7.2 c (by rw [hl7]; exact hcn)).2
          rw [Nat.zero_add] at hr7c hr7f
          have hsw := hid (hr7.set_ (i := c) (by rw [hl7]; exact hcn) y)
          rw [Nat.zero_add, ← hsets.out] at hsw
          clear hl7
          go_simp
          have hfin : wl.grownBy (wl.drew.setCell ⟨g, c, none⟩ (.int .u64 y)) (some g) := (ext_grownBy (Ext.refl wl).drew).trans (setCell_grown _ _ _)
          refine hK.out _ _ hfin (fun hHeld => ?_)
          clear hK K
          refine wpAnyH_done (by kernel_rfl) ?_ _
          have hx9 : Ext w6 (wl.drew.setCell ⟨g, c, none⟩ (.int .u64 y)) := hxl.grown hfin (fun q e => by injection e with e; have := HGW.out; omega)
          clear hr7 hr7c hr7f CF
          go_wp2_with fail
          go_roundw
          case rel => exact ⟨k + 1, by go_num, by omega, hsw, hx9⟩
          case measure => simp [intOf]; omega
        · obtain rfl : r = k := by omega
          have hXr := HW.out
          rw [← HX.out] at hXr
          have hXI := hid (hXr.ints' LX.out (Nat.le_refl m) (by omega))
          have hX0 := hid ((X3.out.trans HX36.out).trans hxl)
          clear hXr
          go_wp2_with fail
          go_ret2
          exact ⟨_, rfl, hXI.out, hX0.out⟩
end Go.Proofs.Ytfpmcajndgkgeaa
/- The document's own answer of layer 8: Kernel and Rows, where there is nothing. -/
namespace Go.Proofs.Ytfpmcajndgkgeaa
open Go.RowKit Go.Maps

set_option maxRecDepth 100000 in
set_option maxHeartbeats 4000000 in
theorem r8Kernel_no (p : Int) (m n : Nat) (v : Value) (xs : List Int) (w : World) (ok : MatOk p m n xs) (hf : Fld p) (hv : Ints .u64 w v xs) (hr0 : ¬ freeC n (takeL p m n xs).cols < n) :
    Calls Try.prog 21 #[.int .u64 p, matV m n v] w (RetE 6 [] w) := by
  have hp2 := rightB_true ok.hp
  have hm := ok.hm; have hn := ok.hn
  have h := takeL_ok (m := m) (n := n) hp2.1 hf ok.hx
  have C1 := hid fun (W : World) (hW : Ext w W) => r7Take p m n v xs W ok hf (hv.ext hW)
  have hF := Nat.le_antisymm (freeC_le n (takeL p m n xs).cols) (Nat.le_of_not_lt hr0)
  have hFl := hid fun j (hj : j < n) => (show 0 ≤ findZ (colsZ (takeL p m n xs)) (j : Int) from findZ_cols.2 (freeC_low (n := n) (by omega)))
  have hFn := hid (show ¬ 0 ≤ findZ (colsZ (takeL p m n xs)) (n : Int) from fun e => by have := h.cols_lt (findZ_cols.1 e); omega)
  have CF6 := hid fun (W : World) (rv : Value) (x : Int) (h : Ints .i64 W rv (colsZ (takeL p m n xs))) => r6Find rv (colsZ (takeL p m n xs)) x W h
  have lR : (rowsZ (takeL p m n xs)).length = (takeL p m n xs).U.length := by simp [rowsZ, h.lr]
  have lK : (colsZ (takeL p m n xs)).length = (takeL p m n xs).U.length := by simp [colsZ, h.lk]
  obtain ⟨Rw, eR⟩ : ∃ Rw, rowsZ (takeL p m n xs) = Rw := ⟨_, rfl⟩
  rw [eR] at C1 lR
  obtain ⟨Kw, eK⟩ : ∃ Kw, colsZ (takeL p m n xs) = Kw := ⟨_, rfl⟩
  rw [eK] at C1 lK hFl hFn CF6
  obtain ⟨r, er⟩ : ∃ r, (takeL p m n xs).U.length = r := ⟨_, rfl⟩
  rw [er] at lR lK
  obtain ⟨a, cap, rfl, k1, k2, k3⟩ := hv
  have LR := hid lR; have LK := hid lK
  have hA := hid (Blk.new w 25 #[.int .i64 (m : Int), .int .i64 (n : Int), .slice a xs.length cap])
  obtain ⟨b0, b1, b2⟩ := hA.out.at3
  unfold matV at C1
  unfold matV
  clear k3 ok hf h eR eK er lR lK hF hr0
  go_enter Try.func21, Try.ntmps21
  go_wp2_with (first
    | (go_at_call 63; refine (C1.out _ (by repeat (first | exact Ext.refl _ | assumption | refine Ext.drew ?_ | refine Ext.drewN ?_ _ | refine Ext.alloc ?_ _ | refine Ext.trans ?_ (by assumption)))).mono ?_; rintro _ w2 ⟨rv, cv, a1, l1, q1, a2, l2, q2, rfl, h1, h2, x2⟩
       have H1 := hid h1; have H2 := hid h2
       obtain ⟨ar, cr, rfl, r1, r2, r3⟩ := h1
       obtain ⟨ak, ck, rfl, c1, c2, c3⟩ := h2
       rw [LR.out] at H1 r1 r3 ⊢
       rw [LK.out] at H2 c1 c3 ⊢
       have R3 := hid r3; have K3 := hid c3
       clear r3 c3))
  obtain ⟨w3, hw3⟩ : ∃ w3, w2.alloc (.cells #[.slice ar r cr, .slice ak r ck, .slice a1 l1 q1, .slice a2 l2 q2] 71) = w3 := ⟨_, rfl⟩
  have x3 : Ext w2 w3 := hw3 ▸ (Ext.refl w2).alloc _
  have hC3 : Blk w3 w2.heap.size 71 #[.slice ar r cr, .slice ak r ck, .slice a1 l1 q1, .slice a2 l2 q2] := hw3 ▸ Blk.new _ _ _
  have hX3 : Ext w w3 := Ext.trans (by repeat (first | exact Ext.refl _ | assumption | refine Ext.drew ?_ | refine Ext.drewN ?_ _ | refine Ext.alloc ?_ _ | refine Ext.trans ?_ (by assumption))) x3
  have X3 := hid hX3; have HC := hid hC3; have HA3 := hid ((hA.out.ext x2).ext x3)
  have R1 := hid (H1.out.ext x3); have K1 := hid (H2.out.ext x3)
  have hwT : w2.heap.size < w3.heap.size := hC3.lt
  have hwH : w.heap.size < w2.heap.size := by
    have h := x2.size
    simp at h; omega
  rw [hw3]
  obtain ⟨T, hT⟩ : ∃ T, w2.heap.size = T := ⟨_, rfl⟩
  rw [hT] at HC hwT hwH
  rw [hT]
  obtain ⟨H, hH⟩ : ∃ H, w.heap.size = H := ⟨_, rfl⟩
  rw [hH] at HA3 hwH
  rw [hH]
  clear hw3 x3 hC3 hX3 C1 H1 H2 b0 b1 b2 hT hA hH
  go_loopw [8] (fun fv wf => ∃ f : Nat, fv = .int .i64 f ∧ f ≤ n ∧ Ext w3 wf) (fun fv _ => n - (intOf fv).toNat)
  case atStart => exact ⟨0, rfl, Nat.zero_le _, Ext.refl _⟩
  case round =>
    obtain ⟨f, rfl, hfF, hxf⟩ := hrel
    rename World => wf
    have CFd := hid (CF6.out wf _ (f : Int) (K1.out.ext hxf))
    have p1 := (HC.out.ext hxf).cell 1
    by_cases hlf : f < n
    · have hpos := hFl.out f hlf
      obtain ⟨z, ez⟩ : ∃ z, findZ Kw (f : Int) = z := ⟨_, rfl⟩
      rw [ez] at CFd hpos
      have t0 : decide ((0 : Int) ≤ z) = true := decide_eq_true hpos
      clear ez
      go_wp2_with (go_at_call 67; refine CFd.out.mono ?_; rintro _ wg ⟨rfl, hdg⟩; have xg := hdg.ext)
      go_roundw
      case rel => exact ⟨f + 1, by go_num, by omega, hxf.trans xg⟩
      case measure => simp [intOf]; omega
    · obtain rfl : n = f := by omega
      have hneg := hFn.out
      obtain ⟨z, ez⟩ : ∃ z, findZ Kw (n : Int) = z := ⟨_, rfl⟩
      rw [ez] at CFd hneg
      have t0 : decide ((0 : Int) ≤ z) = false := decide_eq_false (by omega)
      have t1 : decide ((n : Int) ≤ (n : Int)) = true := decide_eq_true (by omega)
      have t2 : decide (n ≤ n) = true := decide_eq_true (by omega)
      clear ez
      go_wp2_with (go_at_call 67; refine CFd.out.mono ?_; rintro _ wg ⟨rfl, hdg⟩; have xg := hxf.trans hdg.ext; obtain ⟨e0, e1, e2⟩ := (HA3.out.ext xg).at3)
      go_ret2
      exact ⟨_, rfl, Ints.nil, X3.out.trans xg⟩
set_option maxRecDepth 100000 in
set_option maxHeartbeats 4000000 in
theorem r8Rows_no (p : Int) (m n : Nat) (v : Value) (xs : List Int) (I : Nat) (w : World) (ok : MatOk p m n xs) (hf : Fld p) (hv : Ints .u64 w v xs) (hIr : I ∈ (takeL p m n xs).rows) :
    Calls Try.prog 23 #[.int .u64 p, matV m n v, .int .i64 (I : Int)] w (RetE 6 [] w) := by
  have hp2 := rightB_true ok.hp
  have hm := ok.hm; have hn := ok.hn
  have h := takeL_ok (m := m) (n := n) hp2.1 hf ok.hx
  have C1 := hid fun (W : World) (hW : Ext w W) => r7Take p m n v xs W ok hf (hv.ext hW)
  have CF6 := hid fun (W : World) (rv : Value) (h : Ints .i64 W rv (rowsZ (takeL p m n xs))) => r6Find rv (rowsZ (takeL p m n xs)) (I : Int) W h
  obtain ⟨z, ez⟩ : ∃ z, findZ (rowsZ (takeL p m n xs)) (I : Int) = z := ⟨_, rfl⟩
  have hpos : 0 ≤ z := by
    rw [← ez]
    exact findZ_cols.2 hIr
  have t0 : decide ((0 : Int) ≤ z) = true := decide_eq_true hpos
  rw [ez] at CF6
  have lR : (rowsZ (takeL p m n xs)).length = (takeL p m n xs).U.length := by simp [rowsZ, h.lr]
  have lK : (colsZ (takeL p m n xs)).length = (takeL p m n xs).U.length := by simp [colsZ, h.lk]
  obtain ⟨Rw, eR⟩ : ∃ Rw, rowsZ (takeL p m n xs) = Rw := ⟨_, rfl⟩
  rw [eR] at C1 lR CF6
  obtain ⟨Kw, eK⟩ : ∃ Kw, colsZ (takeL p m n xs) = Kw := ⟨_, rfl⟩
  rw [eK] at C1 lK
  obtain ⟨r, er⟩ : ∃ r, (takeL p m n xs).U.length = r := ⟨_, rfl⟩
  rw [er] at lR lK
  obtain ⟨a, cap, rfl, k1, k2, k3⟩ := hv
  have LR := hid lR; have LK := hid lK
  have hA := hid (Blk.new w 25 #[.int .i64 (m : Int), .int .i64 (n : Int), .slice a xs.length cap])
  obtain ⟨b0, b1, b2⟩ := hA.out.at3
  unfold matV at C1
  unfold matV
  clear k3 ok hf h eR eK er lR lK hIr ez
  go_enter Try.func23, Try.ntmps23
  go_upto_region 2 with (first
    | (go_at_call 63; refine (C1.out _ (by repeat (first | exact Ext.refl _ | assumption | refine Ext.drew ?_ | refine Ext.drewN ?_ _ | refine Ext.alloc ?_ _ | refine Ext.trans ?_ (by assumption)))).mono ?_; rintro _ w2 ⟨rv, cv, a1, l1, q1, a2, l2, q2, rfl, h1, h2, x2⟩
       have H1 := hid h1; have H2 := hid h2
       obtain ⟨ar, cr, rfl, r1, r2, r3⟩ := h1
       obtain ⟨ak, ck, rfl, c1, c2, c3⟩ := h2
       rw [LR.out] at H1 r1 r3 ⊢
       rw [LK.out] at H2 c1 c3 ⊢
       have R3 := hid r3; have K3 := hid c3
       clear r3 c3))
  obtain ⟨w3, hw3⟩ : ∃ w3, w2.alloc (.cells #[.slice ar r cr, .slice ak r ck, .slice a1 l1 q1, .slice a2 l2 q2] 71) = w3 := ⟨_, rfl⟩
  have x3 : Ext w2 w3 := hw3 ▸ (Ext.refl w2).alloc _
  have hC3 : Blk w3 w2.heap.size 71 #[.slice ar r cr, .slice ak r ck, .slice a1 l1 q1, .slice a2 l2 q2] := hw3 ▸ Blk.new _ _ _
  have hX3 : Ext w w3 := Ext.trans (by repeat (first | exact Ext.refl _ | assumption | refine Ext.drew ?_ | refine Ext.drewN ?_ _ | refine Ext.alloc ?_ _ | refine Ext.trans ?_ (by assumption))) x3
  have X3 := hid hX3; have HC := hid hC3; have HA3 := hid ((hA.out.ext x2).ext x3)
  have R1 := hid (H1.out.ext x3); have K1 := hid (H2.out.ext x3)
  have hwT : w2.heap.size < w3.heap.size := hC3.lt
  have hwH : w.heap.size < w2.heap.size := by
    have h := x2.size
    simp at h; omega
  rw [hw3]
  obtain ⟨T, hT⟩ : ∃ T, w2.heap.size = T := ⟨_, rfl⟩
  rw [hT] at HC hwT hwH
  rw [hT]
  obtain ⟨H, hH⟩ : ∃ H, w.heap.size = H := ⟨_, rfl⟩
  rw [hH] at HA3 hwH
  rw [hH]
  clear hw3 x3 hC3 hX3 C1 H1 H2 b0 b1 b2 hT hA hH
  obtain ⟨p0, p1, p2, p3⟩ := HC.out.at4
  go_wp2_with (first
    | (go_at_call 67; refine (CF6.out _ _ R1.out).mono ?_; rintro _ wg ⟨rfl, hdg⟩; have xg := hdg.ext; obtain ⟨e0, e1, e2⟩ := (HA3.out.ext xg).at3))
  go_ret2
  exact ⟨_, rfl, Ints.nil, X3.out.trans xg⟩
open Classical in
/-- what Rows answers: the code, and the numbers -/
noncomputable def yCode (p : Int) (m n : Nat) (xs : List Int) (I : Nat) : Int := if I ∈ (takeL p m n xs).rows then 6 else 0
open Classical in
noncomputable def yTold (p : Int) (m n : Nat) (xs : List Int) (I : Nat) : List Int := if I ∈ (takeL p m n xs).rows then [] else solY p m n xs I
theorem r8RowsA (p : Int) (m n : Nat) (v : Value) (xs : List Int) (I : Nat) (w : World) (ok : MatOk p m n xs) (hf : Fld p) (hv : Ints .u64 w v xs) (hI : I < m) :
    Calls Try.prog 23 #[.int .u64 p, matV m n v, .int .i64 (I : Int)] w (RetE (yCode p m n xs I) (yTold p m n xs I) w) := by
  unfold yCode yTold
  by_cases e : I ∈ (takeL p m n xs).rows
  · rw [if_pos e, if_pos e]
    exact r8Rows_no p m n v xs I w ok hf hv e
  · rw [if_neg e, if_neg e]
    exact r8Rows p m n v xs I w ok hf hv hI e
end Go.Proofs.Ytfpmcajndgkgeaa
/- The document's own answers of layer 8: Left and Against. -/
namespace Go.Proofs.Ytfpmcajndgkgeaa
open Go.RowKit Go.Maps

/-- what Left tells -/
def LQ (p : Int) (m n : Nat) (xs : List Int) (code : Int) (l : List Int) : Prop := (code = 0 ∧ ∃ i, i < m ∧ i ∉ (takeL p m n xs).rows ∧ (∀ k, k < i → k ∈ (takeL p m n xs).rows) ∧ l = solY p m n xs i) ∨ (code = 6 ∧ l = [] ∧ ∀ k, k < m → k ∈ (takeL p m n xs).rows)
set_option maxRecDepth 100000 in
set_option maxHeartbeats 2000000 in
theorem r8Left (p : Int) (m n : Nat) (v : Value) (xs : List Int) (w : World) (ok : MatOk p m n xs) (hf : Fld p) (hv : Ints .u64 w v xs) :
    Calls Try.prog 22 #[.int .u64 p, matV m n v] w fun e w' => ∃ code l, LQ p m n xs code l ∧ RetE code l w e w' := by
  have hm := ok.hm; have hn := ok.hn
  have C1 := hid fun (i : Nat) (W : World) (hW : Ext w W) (hi : i < m) => r8RowsA p m n v xs i W ok hf (hv.ext hW) hi
  obtain ⟨rs, ers⟩ : ∃ rs, (takeL p m n xs).rows = rs := ⟨_, rfl⟩
  obtain ⟨a, cap, rfl, k1, k2, k3⟩ := hv
  unfold yCode yTold at C1
  unfold LQ
  rw [ers] at C1 ⊢
  obtain ⟨w1, hw1⟩ : ∃ w1, w.alloc (.cells #[.int .i64 (m : Int), .int .i64 (n : Int), .slice a xs.length cap] 25) = w1 := ⟨_, rfl⟩
  have HA := hid (hw1 ▸ Blk.new w 25 #[.int .i64 (m : Int), .int .i64 (n : Int), .slice a xs.length cap] : Blk w1 w.heap.size 25 #[.int .i64 (m : Int), .int .i64 (n : Int), .slice a xs.length cap])
  have X1 := hid (hw1 ▸ (Ext.refl w).alloc _ : Ext w w1)
  unfold matV at C1
  unfold matV
  clear k3 ok hf ers
  go_enter Try.func22, Try.ntmps22
  go_wp2_with fail
  clear hw1
  go_loopw [6] (fun iv wr => ∃ i : Nat, iv = .int .i64 i ∧ i ≤ m ∧ Hid (∀ k, k < i → k ∈ rs) ∧ Ext w1 wr) (fun iv _ => m - (intOf iv).toNat)
  case atStart => exact ⟨0, rfl, Nat.zero_le _, hid fun k h => absurd h (Nat.not_lt_zero _), Ext.refl _⟩
  case round =>
    obtain ⟨i, rfl, hi', hall, hxr⟩ := hrel
    rename World => wr
    obtain ⟨b0, b1, b2⟩ := (HA.out.ext hxr).at3
    by_cases hlt : i < m
    · have CR0 := C1.out i wr (X1.out.trans hxr) hlt
      by_cases hc : i ∈ rs
      · rw [if_pos hc, if_pos hc] at CR0
        have CR := hid CR0
        have hall' := hid fun k (hk : k < i + 1) => (show k ∈ rs from by
          rcases Nat.lt_or_ge k i with c | c
          · exact hall.out k c
          · obtain rfl : k = i := by omega
            exact hc)
        clear CR0 hc
        go_wp2_with (go_at_call 23; refine CR.out.mono ?_; rintro _ wg ⟨vr, rfl, hvr, xg⟩)
        go_roundw
        case rel => exact ⟨i + 1, by go_num, by omega, hall', hxr.trans xg⟩
        case measure => simp [intOf]; omega
      · rw [if_neg hc, if_neg hc] at CR0
        have CR := hid CR0
        have HN := hid hc
        clear CR0 hc
        go_wp2_with (go_at_call 23; refine CR.out.mono ?_; rintro _ wg ⟨vr, rfl, hvr, xg⟩)
        go_ret2
        exact ⟨0, _, Or.inl ⟨rfl, i, hlt, HN.out, hall.out, rfl⟩, _, rfl, hvr, (X1.out.trans hxr).trans xg⟩
    · obtain rfl : m = i := by omega
      go_wp2_with fail
      go_ret2
      exact ⟨6, [], Or.inr ⟨rfl, rfl, hall.out⟩, _, rfl, Ints.nil, X1.out.trans hxr⟩
end Go.Proofs.Ytfpmcajndgkgeaa
/- The document's own answer of layer 8: Against. -/
namespace Go.Proofs.Ytfpmcajndgkgeaa
open Go.RowKit Go.Maps

/-- what Against tells -/
def AQ (p : Int) (m n : Nat) (xs b : List Int) (code : Int) (l : List Int) : Prop := (code = 0 ∧ ∃ i, i < m ∧ i ∉ (takeL p m n xs).rows ∧ dotZ (solY p m n xs i) b % p ≠ 0 ∧ (∀ k, k < i → k ∉ (takeL p m n xs).rows → dotZ (solY p m n xs k) b % p = 0) ∧ l = solY p m n xs i) ∨ (code = 6 ∧ l = [] ∧ ∀ k, k < m → k ∉ (takeL p m n xs).rows → dotZ (solY p m n xs k) b % p = 0)
set_option maxRecDepth 100000 in
set_option maxHeartbeats 2000000 in
theorem r8Against (p : Int) (m n : Nat) (v u : Value) (xs b : List Int) (w : World) (ok : MatOk p m n xs) (hf : Fld p) (hv : Ints .u64 w v xs) (hu : Ints .u64 w u b) (hbl : b.length = m) (hbr : Rng p b) :
    Calls Try.prog 19 #[.int .u64 p, matV m n v, u] w fun e w' => ∃ code l, AQ p m n xs b code l ∧ RetE code l w e w' := by
  have hm := ok.hm; have hn := ok.hn
  have hp2 := rightB_true ok.hp
  have C1 := hid fun (i : Nat) (W : World) (hW : Ext w W) (hi : i < m) => r8RowsA p m n v xs i W ok hf (hv.ext hW) hi
  obtain ⟨D, hD⟩ : ∃ D : Nat → Int, (fun i => dotZ (solY p m n xs i) b % p) = D := ⟨_, rfl⟩
  have HD := hid fun i => (congrFun hD i : dotZ (solY p m n xs i) b % p = D i)
  have C2 := hid fun (i : Nat) (vr : Value) (W : World) (hW : Ext w W) (hvr : Ints .u64 W vr (solY p m n xs i)) => rDot p (D i) vr u (solY p m n xs i) b W hvr (hu.ext hW) (fun x hx => by have := solY_rng hp2.1 x hx; have := hp2.2; omega) (fun x hx => by have := hbr x hx; have := hp2.2; omega) (by rw [solY_len, hbl]) (hasB_mk ok.hp fun x hx => (solY_rng hp2.1 x hx).2) (hasB_mk ok.hp fun x hx => (hbr x hx).2) (HD.out i)
  have hDr := hid fun i => (show 0 ≤ D i ∧ D i < p from by rw [← HD.out i]; exact mod_range _ hp2.1)
  obtain ⟨rs, ers⟩ : ∃ rs, (takeL p m n xs).rows = rs := ⟨_, rfl⟩
  obtain ⟨a, cap, rfl, k1, k2, k3⟩ := hv
  unfold yCode yTold at C1
  unfold AQ
  rw [ers] at C1 ⊢
  simp only [HD.out]
  obtain ⟨w1, hw1⟩ : ∃ w1, w.alloc (.cells #[.int .i64 (m : Int), .int .i64 (n : Int), .slice a xs.length cap] 25) = w1 := ⟨_, rfl⟩
  have HA := hid (hw1 ▸ Blk.new w 25 #[.int .i64 (m : Int), .int .i64 (n : Int), .slice a xs.length cap] : Blk w1 w.heap.size 25 #[.int .i64 (m : Int), .int .i64 (n : Int), .slice a xs.length cap])
  have X1 := hid (hw1 ▸ (Ext.refl w).alloc _ : Ext w w1)
  unfold matV at C1
  unfold matV
  clear k3 ok hf ers hD HD hbl hbr hu
  go_enter Try.func19, Try.ntmps19
  go_wp2_with fail
  clear hw1
  go_loopw [8] (fun iv wr => ∃ i : Nat, iv = .int .i64 i ∧ i ≤ m ∧ Hid (∀ k, k < i → k ∉ rs → D k = 0) ∧ Ext w1 wr) (fun iv _ => m - (intOf iv).toNat)
  case atStart => exact ⟨0, rfl, Nat.zero_le _, hid fun k h => absurd h (Nat.not_lt_zero _), Ext.refl _⟩
  case round =>
    obtain ⟨i, rfl, hi', hall, hxr⟩ := hrel
    rename World => wr
    obtain ⟨b0, b1, b2⟩ := (HA.out.ext hxr).at3
    by_cases hlt : i < m
    · have CR0 := C1.out i wr (X1.out.trans hxr) hlt
      have hall2 := hid fun (h : i ∉ rs → D i = 0) k (hk : k < i + 1) => (show k ∉ rs → D k = 0 from by
        rcases Nat.lt_or_ge k i with c | c
        · exact hall.out k c
        · obtain rfl : k = i := by omega
          exact h)
      by_cases hc : i ∈ rs
      · rw [if_pos hc, if_pos hc] at CR0
        have CR := hid CR0
        have hall' := hid (hall2.out fun h => absurd hc h)
        clear CR0 hc
        go_wp2_with (go_at_call 23; refine CR.out.mono ?_; rintro _ wg ⟨vr, rfl, hvr, xg⟩)
        go_roundw
        case rel => exact ⟨i + 1, by go_num, by omega, hall', hxr.trans xg⟩
        case measure => simp [intOf]; omega
      · rw [if_neg hc, if_neg hc] at CR0
        have CR := hid CR0
        have HN := hid hc
        clear CR0 hc
        have CD := hid fun (vr : Value) (W : World) (hW : Ext w W) (hvr : Ints .u64 W vr (solY p m n xs i)) => C2.out i vr W hW hvr
        have hdr := hDr.out i
        obtain ⟨d, ed⟩ : ∃ d, D i = d := ⟨_, rfl⟩
        have HED := hid ed
        rw [ed] at CD hdr
        clear ed
        by_cases hd : d = 0
        · subst hd
          have hall' := hid (hall2.out fun _ => HED.out)
          go_wp2_with (first
            | (go_at_call 23; refine CR.out.mono ?_; rintro _ wg ⟨vr, rfl, hvr, xg⟩)
            | (go_at_call 66; refine (CD.out _ _ ((X1.out.trans hxr).trans xg) hvr).mono ?_; rintro _ wk ⟨rfl, xk⟩))
          go_roundw
          case rel => exact ⟨i + 1, by go_num, by omega, hall', (hxr.trans xg).trans xk⟩
          case measure => simp [intOf]; omega
        · have t0 : (d == 0) = false := by simp [hd]
          have t1 : (d != 0) = true := by simp [hd]
          have t2 : decide (d = 0) = false := decide_eq_false hd
          go_wp2_with (first
            | (go_at_call 23; refine CR.out.mono ?_; rintro _ wg ⟨vr, rfl, hvr, xg⟩)
            | (go_at_call 66; refine (CD.out _ _ ((X1.out.trans hxr).trans xg) hvr).mono ?_; rintro _ wk ⟨rfl, xk⟩))
          go_ret2
          exact ⟨0, _, Or.inl ⟨rfl, i, hlt, HN.out, by rw [HED.out]; exact hd, hall.out, rfl⟩, _, rfl, hvr.ext xk, ((X1.out.trans hxr).trans xg).trans xk⟩
    · obtain rfl : m = i := by omega
      go_wp2_with fail
      go_ret2
      exact ⟨6, [], Or.inr ⟨rfl, rfl, hall.out⟩, _, rfl, Ints.nil, X1.out.trans hxr⟩
end Go.Proofs.Ytfpmcajndgkgeaa
