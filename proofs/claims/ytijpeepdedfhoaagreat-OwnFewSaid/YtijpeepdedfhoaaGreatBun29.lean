/- What the texts Sv7, Sv8 show, in one text. -/
import Derived.Test.YtijpeepdedfhoaaGreatBun27
/- Package solve: Left, Kernel. -/
namespace Go.Proofs.YtijpeepdedfhoaaGreat
open Go.RowKit Go.Maps

theorem offE_nil {k : Nat} {K : List Nat} (h : ∀ j, j < k → j ∈ K) : offE k K = [] := by
  unfold offE
  rw [List.filter_eq_nil_iff]
  intro j hj
  have := h j (List.mem_range.1 hj)
  simp [this]
theorem offE_cons {f : Nat} {K : List Nat} (hf : f ∉ K) (h : ∀ j, j < f → j ∈ K) : ∀ k, f < k → ∃ t, offE k K = f :: t
  | 0, hk => absurd hk (Nat.not_lt_zero _)
  | k + 1, hk => by
    rcases Nat.lt_or_ge f k with c | c
    · obtain ⟨t, e⟩ := offE_cons hf h k c
      by_cases hm : k ∈ K
      · exact ⟨t, by rw [offE_yes hm, e]⟩
      · exact ⟨t ++ [k], by rw [offE_no hm, e]; rfl⟩
    · obtain rfl : f = k := by omega
      exact ⟨[], by rw [offE_no hf, offE_nil h]; rfl⟩
/-- the first row that doesn't count -/
def LeOf (p : Int) (m n : Nat) (xs : List Int) (y : List Int) : Prop := ∃ i, i < m ∧ i ∉ (takeL p m n xs).rows ∧ IsY p m n xs i y ∧ ∀ k, k < i → k ∈ (takeL p m n xs).rows

set_option maxHeartbeats 1000000 in
theorem svKernel_no (p : Int) (m n : Nat) (v : Value) (xs : List Int) (w : World) (ok : MatOk p m n xs) (hf : Fld p) (hv : Ints .u64 w v xs) (hr : ¬ (takeL p m n xs).U.length < n) : Calls Tryz.prog 92 #[.int .u64 p, matV m n v] w (RetE 6 [] w) := by
  have hn := ok.hn
  have C2 := hid fun (W : World) (hW : Ext w W) => svTake p m n v xs W ok hf (hv.ext hW)
  have P := take_pt ok hf
  have rr := P.rr; have kr := P.kr; have ur := P.ur; have lC := P.ok.lc; have hr64 := P.ok.hu
  have C3 := hid fun (W : World) (rv : Value) (hM : Ints .i64 W rv (zL (takeL p m n xs).cols)) => svOthers rv (takeL p m n xs).cols n W hM (by omega) (by omega)
  have htk := takeL_ok (m := m) (n := n) (rightB_true ok.hp).1 hf ok.hx
  have hfc := freeC_lt (n := n) htk.cols_nodup fun c hc => htk.cols_lt hc
  rw [htk.lk] at hfc
  have hge : n ≤ freeC n (takeL p m n xs).cols := Nat.le_of_not_lt fun hlt => hr (hfc.1 hlt)
  rw [offE_nil (fun j hj => freeC_low (n := n) (by omega))] at C3
  obtain ⟨CC, eC⟩ : ∃ CC, (takeL p m n xs).C.map (padL (takeL p m n xs).U.length) = CC := ⟨_, rfl⟩
  rw [eC] at C2
  obtain ⟨UU, eU⟩ : ∃ UU, (takeL p m n xs).U = UU := ⟨_, rfl⟩
  rw [eU] at C2
  obtain ⟨RR, eR⟩ : ∃ RR, (takeL p m n xs).rows = RR := ⟨_, rfl⟩
  rw [eR] at C2
  obtain ⟨KK, eK⟩ : ∃ KK, (takeL p m n xs).cols = KK := ⟨_, rfl⟩
  rw [eK] at C2 C3
  obtain ⟨a, cap, rfl, k1, k2, k3⟩ := hv
  have hA := hid (Blk.new w 25 #[.int .i64 (m : Int), .int .i64 (n : Int), .slice a xs.length cap])
  obtain ⟨b0, b1, b2⟩ := hA.out.at3
  unfold matV at C2
  unfold matV
  clear k3 ok hf P rr kr ur lC eC eU eR eK hr htk hfc hge
  go_enter Tryz.func92, Tryz.ntmps92
  go_wp2_with (first
    | (go_at_call 87; refine (C2.out _ (by repeat (first | exact Ext.refl _ | assumption | refine Ext.drew ?_ | refine Ext.drewN ?_ _ | refine Ext.alloc ?_ _ | refine Ext.trans ?_ (by assumption)))).mono ?_; rintro _ w2 ⟨rv, kv, Cv, Uv, rfl, hM, x2⟩
       have HM := hid hM
       obtain ⟨h1, h2, h3, h4⟩ := hM
       unfold apV
       obtain ⟨ar, cr, rfl, -, -, -⟩ := h1
       obtain ⟨ac, cc, rfl, -, -, -⟩ := h2
       obtain ⟨aC, cC, rfl, -, -, -⟩ := h3
       obtain ⟨aU, cU, rfl, -, -, -⟩ := h4
       have HA2 := hid ((hA.out.ext x2).ext ((Ext.refl w2).alloc (.cells #[.slice ar (zL RR).length cr, .slice ac (zL KK).length cc, .slice aC CC.length cC, .slice aU UU.length cU, .int .u64 p, .int .i64 (n : Int)] 113)))
       obtain ⟨d0, d1, d2⟩ := HA2.out.at3)
    | (go_at_call 109; refine (C3.out _ _ (HM.out.cols.ext ((Ext.refl w2).alloc _))).mono ?_; rintro _ w3 ⟨fv, rfl, hi3, x3⟩
       obtain ⟨af, cf, rfl, -, -, -⟩ := hi3))
  go_ret2
  exact ⟨_, rfl, Ints.nil, (by repeat (first | exact Ext.refl _ | assumption | refine Ext.drew ?_ | refine Ext.drewN ?_ _ | refine Ext.alloc ?_ _ | refine Ext.trans ?_ (by assumption)))⟩
set_option maxRecDepth 100000 in
set_option maxHeartbeats 1000000 in
theorem svKernel_yes (p : Int) (m n : Nat) (v : Value) (xs x : List Int) (w : World) (ok : MatOk p m n xs) (hf : Fld p) (hv : Ints .u64 w v xs) (h : IsK p m n xs x) (hr : (takeL p m n xs).U.length < n) : Calls Tryz.prog 92 #[.int .u64 p, matV m n v] w (RetE 0 x w) := by
  have hn := ok.hn
  have hp2 := rightB_true ok.hp
  have C2 := hid fun (W : World) (hW : Ext w W) => svTake p m n v xs W ok hf (hv.ext hW)
  have P := take_pt ok hf
  have rr := P.rr; have kr := P.kr; have ur := P.ur; have lC := P.ok.lc; have hr64 := P.ok.hu
  have C3 := hid fun (W : World) (rv : Value) (hM : Ints .i64 W rv (zL (takeL p m n xs).cols)) => svOthers rv (takeL p m n xs).cols n W hM (by omega) (by omega)
  have htk := takeL_ok (m := m) (n := n) (rightB_true ok.hp).1 hf ok.hx
  have hfc := freeC_lt (n := n) htk.cols_nodup fun c hc => htk.cols_lt hc
  rw [htk.lk] at hfc
  have hfn := hfc.2 hr
  obtain ⟨tl, etl⟩ := offE_cons (freeC_not hfn) (fun j hj => freeC_low (n := n) hj) n hfn
  rw [etl] at C3
  have C4 := hid fun (W0 W : World) (rv kv Cv Uv mv : Value) (g cap : Nat) (hM : PtM W0 ((takeL p m n xs).C.map (padL (takeL p m n xs).U.length)) (takeL p m n xs).U (takeL p m n xs).rows (takeL p m n xs).cols rv kv Cv Uv) (hw0 : Ext W0 W) (hg0 : W0.heap.size ≤ g)
      (hmv : Ints .u64 W mv (List.replicate (takeL p m n xs).U.length 0)) (hmg : ∀ k, mv.ownBlock = some k → k ≠ g) (hx : WRow W g 0 ((List.replicate n 0).set (freeC n (takeL p m n xs).cols) 1)) (hc1 : n ≤ cap) (hc2 : cap ≤ 9223372036854775807) =>
    (svFill p m n _ _ _ _ _ P (List.replicate (takeL p m n xs).U.length 0) ((List.replicate n 0).set (freeC n (takeL p m n xs).cols) 1) List.length_replicate (zeros_rng hp2.1 _) rv kv Cv Uv mv g cap W0 W hM hw0 hg0 hmv hmg hx
      (Bck.start (by rw [List.length_set, List.length_replicate]) ((zeros_rng hp2.1 n).set'' _ (by omega) (by omega)) fun t ht => by
        rw [unit_get hfn, if_neg]
        intro e
        refine freeC_not hfn ?_
        rw [e, List.getD, List.getElem?_eq_getElem (by rw [kr]; exact ht)]
        exact List.getElem_mem _) hc1 hc2).mono fun e w' hh => (show e = .returned (.tuple #[]) ∧ WRow w' g 0 x ∧ W.grownBy w' (some g) from by
      obtain ⟨rfl, l, h1, h2, h3⟩ := hh
      have := h.one ok hf (isK_of ok hf hfn h2)
      subst this
      exact ⟨rfl, h1, h3⟩)
  have hxl := h.len
  obtain ⟨CC, eC⟩ : ∃ CC, (takeL p m n xs).C.map (padL (takeL p m n xs).U.length) = CC := ⟨_, rfl⟩
  rw [eC] at C2 C4
  obtain ⟨UU, eU⟩ : ∃ UU, (takeL p m n xs).U = UU := ⟨_, rfl⟩
  rw [eU] at C2 C4
  obtain ⟨RR, eR⟩ : ∃ RR, (takeL p m n xs).rows = RR := ⟨_, rfl⟩
  rw [eR] at C2 C4
  obtain ⟨KK, eK⟩ : ∃ KK, (takeL p m n xs).cols = KK := ⟨_, rfl⟩
  rw [eK] at C2 C3 C4
  obtain ⟨a, cap, rfl, k1, k2, k3⟩ := hv
  have hA := hid (Blk.new w 25 #[.int .i64 (m : Int), .int .i64 (n : Int), .slice a xs.length cap])
  obtain ⟨b0, b1, b2⟩ := hA.out.at3
  unfold matV at C2
  unfold matV
  unfold apV at C4
  obtain ⟨f, ef⟩ : ∃ f, freeC n KK = f := ⟨_, rfl⟩
  rw [eK, ef] at hfn
  rw [ef] at C3 C4
  have hz : zL (f :: tl) = (f : Int) :: zL tl := rfl
  have hzl := hid (zL_len tl)
  rw [hz] at C3
  obtain ⟨tz, etz⟩ : ∃ tz, zL tl = tz := ⟨_, rfl⟩
  rw [etz] at C3 hzl
  have hlen : tz.length ≤ 64 := by
    rw [hzl.out]
    have h1 := offE_le (takeL p m n xs).cols n
    rw [etl, List.length_cons] at h1
    omega
  rw [eU] at hr64 hr
  have hmk := make_ints (P := Tryz.prog) 23 22 .u64 8 (by omega) (by kernel_rfl) (by kernel_rfl) n n (Nat.le_refl _) (by omega)
  have hmk2 := make_ints (P := Tryz.prog) 23 22 .u64 8 (by omega) (by kernel_rfl) (by kernel_rfl) UU.length UU.length (Nat.le_refl _) (by omega)
  have g0m := made_get hfn
  have hmx : Tryz.prog.follows .mixedOrders = true := by kernel_rfl
  have HXL := hid hxl
  clear k3 ok hf P rr kr ur lC eC eU eR eK h htk hfc etl hz etz hzl ef hxl
  go_enter Tryz.func92, Tryz.ntmps92
  go_upto_region 9 with (first
    | (go_at_call 87; refine (C2.out _ (by repeat (first | exact Ext.refl _ | assumption | refine Ext.drew ?_ | refine Ext.drewN ?_ _ | refine Ext.alloc ?_ _ | refine Ext.trans ?_ (by assumption)))).mono ?_; rintro _ w2 ⟨rv, kv, Cv, Uv, rfl, hM, x2⟩
       have HM := hid hM
       obtain ⟨h1, h2, h3, h4⟩ := hM
       unfold apV
       obtain ⟨ar, cr, rfl, -, -, -⟩ := h1
       obtain ⟨ac, cc, rfl, -, -, -⟩ := h2
       obtain ⟨aC, cC, rfl, -, -, -⟩ := h3
       obtain ⟨aU, cU, rfl, -, -, -⟩ := h4
       have HA2 := hid ((hA.out.ext x2).ext ((Ext.refl w2).alloc (.cells #[.slice ar (zL RR).length cr, .slice ac (zL KK).length cc, .slice aC CC.length cC, .slice aU UU.length cU, .int .u64 p, .int .i64 (n : Int)] 113)))
       obtain ⟨d0, d1, d2⟩ := HA2.out.at3)
    | (go_at_call 109; refine (C3.out _ _ (HM.out.cols.ext ((Ext.refl w2).alloc _))).mono ?_; rintro _ w3 ⟨fv, rfl, hi3, x3⟩
       obtain ⟨af, cf, rfl, f1, f2, f3⟩ := hi3
       obtain ⟨bf, off, rfl, hbf, hcf⟩ := f3 (by simp)
       have g0 := hcf 0 (by simp)
       rw [Nat.add_zero] at g0
       have g0' : w3.cell? ⟨bf, off, none⟩ = some (.int .i64 (f : Int)) := g0
       have g1' : (w3.alloc (.cells (madeCells #[Value.int .u64 0] n) 22)).cell? ⟨bf, off, none⟩ = some (.int .i64 (f : Int)) := (((Ext.refl w3).alloc _).cells _ _ hbf).trans g0'
       rw [List.length_cons] at f1
       have tlen : (((tz.length : Int) + 1) == 0) = false := by simp; omega
       have HB := hid ((Blk.new w2 113 #[.slice ar (zL RR).length cr, .slice ac (zL KK).length cc, .slice aC CC.length cC, .slice aU UU.length cU, .int .u64 p, .int .i64 (n : Int)]).ext x3)
       have HA3 := hid (HA2.out.ext x3)
       obtain ⟨a0, a1, a2⟩ := HA3.out.at3
       clear g0 hcf f3))
  obtain ⟨w4, hw4⟩ : ∃ w4, w3.alloc (.cells ((madeCells #[Value.int .u64 0] n).setIfInBounds f (.int .u64 1)) 22) = w4 := ⟨_, rfl⟩
  have x4 : Ext w3 w4 := hw4 ▸ (Ext.refl w3).alloc _
  have hs4 : w4.heap.size = w3.heap.size + 1 := by rw [← hw4]; simp
  have hrow := hid (show WRow w4 w3.heap.size 0 ((List.replicate n 0).set f 1) from hw4 ▸ WRow.made1 rfl)
  rw [hw4]
  have CF := hid fun (W' : World) (hS : w4.grownBy W' (some w3.heap.size)) => (show (W'.cell? ⟨w2.heap.size, 0, none⟩ = some (.slice ar (zL RR).length cr) ∧ W'.cell? ⟨w2.heap.size, 1, none⟩ = some (.slice ac (zL KK).length cc) ∧ W'.cell? ⟨w2.heap.size, 2, none⟩ = some (.slice aC CC.length cC) ∧ W'.cell? ⟨w2.heap.size, 3, none⟩ = some (.slice aU UU.length cU) ∧
    W'.cell? ⟨w2.heap.size, 4, none⟩ = some (.int .u64 p) ∧ W'.cell? ⟨w2.heap.size, 5, none⟩ = some (.int .i64 (n : Int))) from by
    have hlt : w2.heap.size < w3.heap.size := by have h := x3.size; simp at h; omega
    have hb := (HB.out.ext x4).grown hS (fun e => by injection e with e; omega)
    exact ⟨hb.cell 0, hb.cell 1, hb.cell 2, hb.cell 3, hb.cell 4, hb.cell 5⟩)
  clear g0' g1' hw4 a0 a1 a2 d0 d1 d2 b0 b1 b2
  refine wp_region_held_drew (S := fun W' => w4.grownBy W' (some w3.heap.size)) hmx ((Ext.refl w4).drew.grownBy _) (fun hHeld => ?_)
  refine wpAnyH_take (i := 0) (v := .agg #[.slice ar (zL RR).length cr, .slice ac (zL KK).length cc, .slice aC CC.length cC, .slice aU UU.length cU, .int .u64 p, .int .i64 (n : Int)]) rfl (by kernel_rfl) (by kernel_rfl) (by kernel_rfl) (fun _ _ _ h => h) (Or.inl ⟨by rfl, ?_⟩) hHeld ?_
  · intro W' hSw
    obtain ⟨q0, q1, q2, q3, q4, q5⟩ := CF.out W' hSw
    go_simp
  refine wpAnyH_take (i := 1) (v := .slice (some ⟨w3.heap.size, 0, none⟩) n n) rfl (by kernel_rfl) (by kernel_rfl) (by kernel_rfl) (fun _ _ _ h => h) (Or.inl ⟨by rfl, ?_⟩) hHeld ?_
  · intro W' hSw
    obtain ⟨q0, q1, q2, q3, q4, q5⟩ := CF.out W' hSw
    go_simp
  refine wpAnyH_take (i := 2) (v := .pointer (some ⟨w2.heap.size, 0, none⟩)) rfl (by kernel_rfl) (by kernel_rfl) (by kernel_rfl) (fun _ _ _ h => h) (Or.inl ⟨by rfl, ?_⟩) hHeld ?_
  · intro W' hSw
    obtain ⟨q0, q1, q2, q3, q4, q5⟩ := CF.out W' hSw
    go_simp
  refine wpAnyH_take (i := 3) (v := .pointer (some ⟨w2.heap.size, 3, none⟩)) rfl (by kernel_rfl) (by kernel_rfl) (by kernel_rfl) (fun _ _ _ h => h) (Or.inl ⟨by rfl, ?_⟩) hHeld ?_
  · intro W' hSw
    obtain ⟨q0, q1, q2, q3, q4, q5⟩ := CF.out W' hSw
    go_simp
  refine wpAnyH_take (i := 4) (v := .slice aU UU.length cU) rfl (by kernel_rfl) (by kernel_rfl) (by kernel_rfl) (fun _ _ _ h => h) (Or.inl ⟨by rfl, ?_⟩) hHeld ?_
  · intro W' hSw
    obtain ⟨q0, q1, q2, q3, q4, q5⟩ := CF.out W' hSw
    go_simp
  refine wpAnyH_take (i := 5) (v := .int .i64 (UU.length : Int)) rfl (by kernel_rfl) (by kernel_rfl) (by kernel_rfl) (fun _ _ _ h => h) (Or.inl ⟨by rfl, ?_⟩) hHeld ?_
  · intro W' hSw
    obtain ⟨q0, q1, q2, q3, q4, q5⟩ := CF.out W' hSw
    go_simp
  refine held_step 6 (by kernel_rfl) rfl (fun K hK => ?_)
  go_simp
  refine hK.out _ _ (((Ext.refl w4).drew.alloc _).grownBy _) (fun hHeld => ?_)
  clear hK K
  refine held_step 7 (by kernel_rfl) rfl (fun K hK => ?_)
  go_simp
  go_wp2_with fail
  have xw : Ext w4 (w4.alloc (.cells (madeCells #[Value.int .u64 0] UU.length) 22)).drew := ((Ext.refl w4).alloc _).drew
  have hmv : Ints .u64 (w4.alloc (.cells (madeCells #[Value.int .u64 0] UU.length) 22)).drew (.slice (some ⟨w3.heap.size + 1, 0, none⟩) UU.length UU.length) (List.replicate UU.length 0) := ((WRow.made (t := 22) (n := UU.length) (w := w4) (g := w3.heap.size + 1) hs4.symm).ext (Ext.refl _).drew).ints' List.length_replicate (Nat.le_refl _) (by omega)
  have hx3 : Ext w2 w3 := Ext.trans ((Ext.refl w2).alloc _) x3
  refine (C4.out w2 _ _ _ _ _ _ w3.heap.size n HM.out ((hx3.trans x4).trans xw) hx3.size hmv (fun k e => by have e : some (w3.heap.size + 1) = some k := e; injection e with e; omega) (hrow.out.ext xw) (Nat.le_refl n) (by omega)).mono ?_
  rintro _ w6 ⟨rfl, h6, g6⟩
  have x6 : Ext w3 w6 := grown_ext g6 (x4.trans xw) (Nat.le_refl _)
  have H6 := hid h6
  go_wp2_with fail
  refine hK.out _ _ ((xw.grownBy _).trans g6) (fun hHeld => ?_)
  clear hK K CF
  refine wpAnyH_done (by kernel_rfl) ?_ _
  go_wp2_with fail
  go_ret2
  exact ⟨_, rfl, H6.out.ints' HXL.out (Nat.le_refl n) (by omega), (by repeat (first | exact Ext.refl _ | assumption | refine Ext.drew ?_ | refine Ext.drewN ?_ _ | refine Ext.alloc ?_ _ | refine Ext.trans ?_ (by assumption)))⟩
end Go.Proofs.YtijpeepdedfhoaaGreat
/- Package solve: Against. -/
namespace Go.Proofs.YtijpeepdedfhoaaGreat
open Go.RowKit Go.Maps

/-- the first row whose number isn't 0 -/
def AgOf (p : Int) (m n : Nat) (xs b : List Int) (y : List Int) : Prop := ∃ i, i < m ∧ i ∉ (takeL p m n xs).rows ∧ IsY p m n xs i y ∧ dotF m (atV y) (atV b) % p ≠ 0 ∧ ∀ k z, k < i → k ∉ (takeL p m n xs).rows → IsY p m n xs k z → dotF m (atV z) (atV b) % p = 0
/-- what Against tells -/
def AgQ (p : Int) (m n : Nat) (xs b : List Int) (code : Int) (l : List Int) : Prop := (code = 0 ∧ AgOf p m n xs b l) ∨ (code = 6 ∧ l = [] ∧ ¬ ∃ y, AgOf p m n xs b y)
theorem AgOf.one {p : Int} {m n : Nat} {xs b x y : List Int} (ok : MatOk p m n xs) (hf : Fld p) (hx : AgOf p m n xs b x) (hy : AgOf p m n xs b y) : x = y := by
  obtain ⟨i, h1, h2, h3, h4, h5⟩ := hx
  obtain ⟨j, g1, g2, g3, g4, g5⟩ := hy
  rcases Nat.lt_trichotomy i j with c | c | c
  · exact absurd (g5 i x c h2 h3) h4
  · subst c; exact h3.one ok hf g3
  · exact absurd (h5 j y c g2 g3) g4
theorem offE_before {K : List Nat} {m j k : Nat} (hj : j < (offE m K).length) (hk : k < (offE m K).getD j 0) (hc : k ∉ K) : ∃ t, t < j ∧ (offE m K).getD t 0 = k := by
  have hp : (offE m K).Pairwise (· < ·) := List.Pairwise.filter _ List.pairwise_lt_range
  have hjm : (offE m K).getD j 0 < m := (offE_mem.1 (getD_mem 0 hj)).1
  have hmem : k ∈ offE m K := offE_mem.2 ⟨by omega, hc⟩
  obtain ⟨t, ht, e⟩ := List.getElem_of_mem hmem
  refine ⟨t, Nat.lt_of_not_le fun hle => ?_, by rw [List.getD, List.getElem?_eq_getElem ht]; exact e⟩
  rw [List.getD, List.getElem?_eq_getElem hj] at hk
  rcases Nat.lt_or_ge j t with c | c
  · have := List.pairwise_iff_getElem.1 hp j t hj ht c
    simp only [Option.getD_some] at hk
    omega
  · obtain rfl : j = t := by omega
    simp only [Option.getD_some] at hk
    omega
end Go.Proofs.YtijpeepdedfhoaaGreat
