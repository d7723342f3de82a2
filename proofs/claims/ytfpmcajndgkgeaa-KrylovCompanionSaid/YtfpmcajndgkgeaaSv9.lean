/- Package solve: Inverse. -/
import Derived.Test.YtfpmcajndgkgeaaBun21
import Derived.Test.YtfpmcajndgkgeaaBun18
import Derived.Test.YtfpmcajndgkgeaaCollect
import Derived.Test.YtfpmcajndgkgeaaBun09
import Derived.RangeFuncCalls
import Derived.Maps.OwnIn
namespace Go.Proofs.Ytfpmcajndgkgeaa
open Go.RowKit Go.Maps Go.Shelf

attribute [local go_sem] Oper.semAt_some

/-- a matrix's column -/
def colOf (n : Nat) (us : List Int) (k : Nat) : List Int := tab n fun j => us.getD (j * n + k) 0
theorem flat_len (n : Nat) (f : Nat → List Int) (hf : ∀ k, (f k).length = n) : ∀ L : List Nat, ((L.map f).flatten).length = L.length * n
  | [] => by simp
  | a :: L => by rw [List.map_cons, List.flatten_cons, List.length_append, flat_len n f hf L, hf, List.length_cons, Nat.succ_mul, Nat.add_comm]
theorem flat_get (n : Nat) (f : Nat → List Int) (hf : ∀ k, (f k).length = n) : ∀ (L : List Nat) (k j : Nat), k < L.length → j < n → ((L.map f).flatten).getD (k * n + j) 0 = (f (L.getD k 0)).getD j 0
  | [], _, _, h, _ => absurd h (Nat.not_lt_zero _)
  | a :: L, 0, j, _, hj => by
    rw [List.map_cons, List.flatten_cons, Nat.zero_mul, Nat.zero_add]
    simp only [List.getD, List.getElem?_append, hf, hj, if_true, List.getElem?_cons_zero, Option.getD_some]
  | a :: L, k + 1, j, h, hj => by
    have := flat_get n f hf L k j (by simpa using h) hj
    rw [List.map_cons, List.flatten_cons, List.getD_cons_succ, ← this]
    have h1 : ¬ (k + 1) * n + j < n := by rw [Nat.succ_mul]; omega
    have h2 : (k + 1) * n + j - n = k * n + j := by rw [Nat.succ_mul]; omega
    simp only [List.getD, List.getElem?_append, hf, h1, if_false, h2]
theorem IsInv.col {p : Int} {n : Nat} {xs us : List Int} (ok : MatOk p n n xs) (hf : Fld p) (hr : (takeL p n n xs).U.length = n) (h : IsInv p n xs us) {k : Nat} (hk : k < n) : IsX p n n xs (rowOf n (oneL n) k) (colOf n us k) := by
  have hp := (rightB_true ok.hp).1
  have ho := takeL_ok (m := n) (n := n) hp hf ok.hx
  have hfc := (freeC_lt (n := n) ho.cols_nodup fun c hc => ho.cols_lt hc)
  rw [ho.lk, hr] at hfc
  have hge : n ≤ freeC n (takeL p n n xs).cols := Nat.le_of_not_lt fun hlt => by have := hfc.1 hlt; omega
  refine ⟨tab_len _ _, tab_rng fun _ _ => h.rng.getD hp _, ?_, fun j hj hc => absurd (freeC_low (n := n) (by omega)) hc⟩
  refine list_ext (by rw [timesL_len]; exact (tab_len _ _).symm) fun i hi => ?_
  rw [timesL_len] at hi
  rw [times_get hi]
  have h1 := congrArg (fun l : List Int => l.getD (i * n + k) 0) h.one
  simp only [mulL, oneL] at h1
  rw [grid_get _ hi hk, grid_get _ hi hk] at h1
  have h2 : (rowOf n (oneL n) k).getD i 0 = if k = i then 1 else 0 := by
    rw [rowOf, tab_get _ hi, oneL, grid_get _ hk hi]
  rw [h2, show (if k = i then (1 : Int) else 0) = if i = k then 1 else 0 by
    by_cases e : i = k
    · rw [if_pos e, if_pos e.symm]
    · rw [if_neg e, if_neg fun h => e h.symm], ← h1]
  unfold dv appF
  refine congrArg (· % p) (sm_congr fun j hj => ?_)
  show (rowOf n xs i).getD j 0 * (colOf n us k).getD j 0 = xs.getD (i * n + j) 0 * us.getD (j * n + k) 0
  rw [show (rowOf n xs i).getD j 0 = xs.getD (i * n + j) 0 from tab_get _ hj, show (colOf n us k).getD j 0 = us.getD (j * n + k) 0 from tab_get _ hj]
theorem cols_turn {n : Nat} {us : List Int} : ((List.range n).map (colOf n us)).flatten = turnL n n us := by
  refine grid_of (by rw [flat_len n (colOf n us) fun k => tab_len _ _, List.length_range]) fun k j hk hj => ?_
  rw [flat_get n (colOf n us) (fun k => tab_len _ _) _ _ _ (by rw [List.length_range]; exact hk) hj]
  have : (List.range n).getD k 0 = k := by simp [List.getD, hk]
  rw [this]
  exact tab_get _ hj
/-- columns that are gathered: the matrix's box and its row -/
structure InvS (wL W : World) (G n : Nat) (tv : Value) (l : List Int) : Prop where
  box : Blk W G 25 #[.int .i64 (n : Int), .int .i64 (n : Int), tv]
  row : W.ownsRow wL.heap.size 22 1 tv l.length (l.map (Value.int .u64))
  ext : wL.grownBy W (some G)
  lt : G < wL.heap.size
theorem InvS.ext' {wL W W' : World} {G n : Nat} {tv : Value} {l : List Int} (h : InvS wL W G n tv l) (x : Ext W W') : InvS wL W' G n tv l :=
  ⟨h.box.ext x, ownsRow_ext h.row x, h.ext.trans (x.grownBy _), h.lt⟩
theorem InvS.own {wL W W' : World} {G n : Nat} {tv : Value} {l : List Int} (h : InvS wL W G n tv l) {row : Option Nat} (hg : W.grownBy W' row) (hr : ∀ r, row = some r → wL.heap.size ≤ r ∧ ∃ o : Obj, W.heap[r]? = some o ∧ o.isCells = false) : InvS wL W' G n tv l :=
  ⟨h.box.grown hg (fun e => by have := (hr G e).1; have := h.lt; omega), h.row.kept hg (by
    rcases h.row.2 with ⟨rfl, _⟩ | ⟨g, cap, cur, rfl, _, hb, _⟩
    · exact .inl rfl
    · refine .inr fun e => ?_
      obtain ⟨_, o, ho, hc⟩ := hr g (by rw [← e]; rfl)
      rw [hb] at ho
      cases ho; cases hc), grown_new h.ext hg fun q e => (hr q e).1, h.lt⟩
/-- a column is put behind -/
theorem InvS.put {wL W W' : World} {G n : Nat} {tv tv' : Value} {l x : List Int} (h : InvS wL W G n tv l) (hown : W'.ownsRow wL.heap.size 22 1 tv' (l.length + x.length) (l.map (Value.int .u64) ++ x.map (Value.int .u64))) (hg : W.grownBy W' tv.ownBlock) :
    InvS wL (W'.setCell ⟨G, 2, none⟩ tv') G n tv' (l ++ x) := by
  have ne : tv.ownBlock ≠ some G := fun e => by have := (h.row.lt G e).1; have := h.lt; omega
  have B := h.box.grown hg ne
  refine ⟨B.set_ 2 tv', ?_, (grown_new h.ext hg fun q e => (h.row.lt q e).1).trans (setCell_grown _ ⟨G, 2, none⟩ tv'), h.lt⟩
  rw [List.length_append, List.map_append]
  exact own_put hown B (by decide) _ _
theorem ints_not_mat {W : World} {g : Nat} {t : TypeId} {x y : Int} {a : Option Addr} {l c : Nat} (hB : Blk W g t #[.int .i64 x, .int .i64 y, .slice a l c]) {v : Value} {xs : List Int} (hi : Ints .u64 W v xs) (hl : 0 < xs.length) : ∀ b, v.ownBlock = some b → (some g : Option Nat) ≠ some b := fun b hb e => by
  obtain ⟨a', cap, rfl, -, -, h3⟩ := hi
  obtain ⟨b', off, rfl, -, hc⟩ := h3 hl
  have e1 : b' = b := by have h : some b' = some b := hb; injection h
  have e2 : g = b := by injection e
  have h0 := hc 0 hl
  rw [e1, ← e2, hB.cell] at h0
  rcases h : off + 0 with _ | _ | _ | k
  · rw [h] at h0; simp at h0
  · rw [h] at h0; simp at h0
  · rw [h] at h0; simp at h0
  · rw [h] at h0; simp at h0
theorem ints_not_def {W : World} {D : Nat} {d : Option (List Deferred)} (hK : W.heap[D]? = some (.deferred d)) {v : Value} {xs : List Int} (hi : Ints .u64 W v xs) (hl : 0 < xs.length) : ∀ b, v.ownBlock = some b → (some D : Option Nat) ≠ some b := fun b hb e => by
  obtain ⟨a', cap, rfl, -, -, h3⟩ := hi
  obtain ⟨b', off, rfl, -, hc⟩ := h3 hl
  have e1 : b' = b := by have h : some b' = some b := hb; injection h
  have e2 : D = b := by injection e
  obtain ⟨o, h1, h2⟩ := cells_of (hc 0 hl)
  rw [show (⟨b', off + 0, none⟩ : Addr).block = D from by rw [e2, ← e1], hK] at h1
  cases h1; cases h2
theorem InvS.keeps {wL W W' : World} {G n Bs Bn : Nat} {tv tv' : Value} {l l' : List Int} (h : InvS wL W G n tv l) (h' : InvS wL W' G n tv' l') (h1 : Bs < wL.heap.size) (h2 : Bn < wL.heap.size) (n1 : Bs ≠ G) (n2 : Bn ≠ G) : KeepsRow Bs Bn W W' :=
  ⟨(grown_cell h'.ext h1 n1).trans (grown_cell h.ext h1 n1).symm, fun _ => (grown_cell h'.ext h2 n2).trans (grown_cell h.ext h2 n2).symm⟩
set_option maxRecDepth 100000 in
set_option maxHeartbeats 2000000 in
theorem svInverse_yes (p : Int) (n : Nat) (v : Value) (xs us : List Int) (w : World) (ok : MatOk p n n xs) (hf : Fld p) (hv : Ints .u64 w v xs) (hr : (takeL p n n xs).U.length = n) (h : IsInv p n xs us) : Calls Try.prog 45 #[.int .u64 p, matV n n v] w (RetN n n us w) := by
  have hp2 := rightB_true ok.hp
  have hn := ok.hn
  have C2 := hid fun (W : World) (hW : Ext w W) => svTake p n n v xs W ok hf (hv.ext hW)
  have P := take_pt ok hf
  have rr := P.rr; have kr := P.kr; have ur := P.ur; have lC := P.ok.lc; have hr64 := P.ok.hu
  have C3 := hid fun (k : Nat) (hk : k < n) (W : World) (rv kv Cv Uv u : Value) (hM : PtM W ((takeL p n n xs).C.map (padL (takeL p n n xs).U.length)) (takeL p n n xs).U (takeL p n n xs).rows (takeL p n n xs).cols rv kv Cv Uv) (hu : Ints .u64 W u (rowOf n (oneL n) k)) =>
    (svSolveA p n n _ _ _ _ _ P (rowOf n (oneL n) k) (tab_len _ _) (rowOf_rng hp2.1 (oneL_rng hp2.1 n) k).2 rv kv Cv Uv u W hM hu).mono fun e w' hh => (show RetE 0 (colOf n us k) W e w' from by
      have hX := h.col ok hf hr hk
      obtain ⟨made, hF, ⟨⟨i, hi, hne⟩, h6⟩ | ⟨hall, x, hB, h0⟩⟩ := hh
      · exact absurd ⟨_, hX⟩ (isX_not ok hf hF hi hne)
      · rw [hX.one ok hf (isX_of ok hf (tab_len _ _) (rowOf_rng hp2.1 (oneL_rng hp2.1 n) k).2 hall hB)]
        exact h0)
  have okT : MatOk p n n (turnL n n us) := ⟨ok.hp, turnL_rng hp2.1 h.rng n n, ok.hn, ok.hn, turnL_len n n us⟩
  have htt := turn_turn (m := n) (n := n) h.len
  have C5 := hid fun (W : World) (hW : Ext w W) => mxOne_yes n W hn
  have C6 := hid fun (W : World) (tv : Value) (ht : Ints .u64 W tv (turnL n n us)) => mxTurn_yes p n n tv (turnL n n us) W okT ht
  rw [htt] at C6
  have lenR : (zL (takeL p n n xs).rows).length = n := by rw [zL_len, rr, hr]
  obtain ⟨CC, eC⟩ : ∃ CC, (takeL p n n xs).C.map (padL (takeL p n n xs).U.length) = CC := ⟨_, rfl⟩
  rw [eC] at C2 C3
  obtain ⟨UU, eU⟩ : ∃ UU, (takeL p n n xs).U = UU := ⟨_, rfl⟩
  rw [eU] at C2 C3
  obtain ⟨RR, eR⟩ : ∃ RR, (takeL p n n xs).rows = RR := ⟨_, rfl⟩
  rw [eR] at C2 C3 lenR
  obtain ⟨KK, eK⟩ : ∃ KK, (takeL p n n xs).cols = KK := ⟨_, rfl⟩
  rw [eK] at C2 C3
  obtain ⟨a, cap, rfl, k1, k2, k3⟩ := hv
  have hA := hid (Blk.new w 25 #[.int .i64 (n : Int), .int .i64 (n : Int), .slice a xs.length cap])
  obtain ⟨b0, b1, b2⟩ := hA.out.at3
  unfold matV at C2
  unfold matV
  unfold apV at C3
  have HUL := hid h.len
  have hb2 := hid (boxes2 w 25 25 #[.int .i64 (n : Int), .int .i64 (n : Int), .slice a xs.length cap] #[.int .i64 0, .int .i64 0, .slice none 0 0])
  have e1 : ((n : Int) != (n : Int)) = false := by simp
  have e2 : decide ((n : Int) < (n : Int)) = false := decide_eq_false (by omega)
  have e2' : decide (n < n) = false := decide_eq_false (by omega)
  obtain ⟨c0, c1, c2⟩ := hb2.out.1.at3
  refine (callsIn_wide (n := 7)).1 ?_
  have f1 : Fence.wide.fn 80 := trivial
  have f2 : Fence.wide.fn 121 := trivial
  have f3 : Fence.wide.fn 79 := trivial
  have f4 : Fence.wide.fn 74 := trivial
  have f5 : Fence.wide.fn 56 := trivial
  have f6 : Fence.wide.fn 57 := trivial
  clear k3 ok hf P rr kr ur lC eC eU eR eK h hr okT htt b0 b1 b2 hA
  refine callsIn_of_wp_marks Try.func45 rfl trivial ?_ rfl
  simp only [Try.ntmps45, List.size_toArray, List.length_cons, List.length_nil, Nat.reduceAdd, Nat.reduceSub, Array.replicate_succ, Array.replicate_zero, List.push_toArray, List.append_toArray, List.nil_append, List.cons_append]
  gi_wp2_with fail
  refine ((callsIn_wide (n := 6)).2 (C2.out _ (by repeat (first | exact Ext.refl _ | assumption | refine Ext.drew ?_ | refine Ext.drewN ?_ _ | refine Ext.alloc ?_ _ | refine Ext.trans ?_ (by assumption))))).mono ?_
  rintro _ w2 ⟨rv, kv, Cv, Uv, rfl, hM, x2⟩
  have HM := hid hM
  obtain ⟨h1, h2, h3, h4⟩ := hM
  unfold apV
  obtain ⟨ar, cr, rfl, -, -, -⟩ := h1
  obtain ⟨ac, cc, rfl, -, -, -⟩ := h2
  obtain ⟨aC, cC, rfl, -, -, -⟩ := h3
  obtain ⟨aU, cU, rfl, -, -, -⟩ := h4
  rw [lenR] at HM ⊢
  have HA2 := hid ((hb2.out.1.ext x2).ext ((Ext.refl w2).alloc (.cells #[.slice ar n cr, .slice ac (zL KK).length cc, .slice aC CC.length cC, .slice aU UU.length cU, .int .u64 p, .int .i64 (n : Int)] 73)))
  obtain ⟨d0, d1, d2⟩ := HA2.out.at3
  gi_wp2_with fail
  refine ((callsIn_wide (n := 6)).2 (C5.out _ (by repeat (first | exact Ext.refl _ | assumption | refine Ext.drew ?_ | refine Ext.drewN ?_ _ | refine Ext.alloc ?_ _ | refine Ext.trans ?_ (by assumption))))).mono ?_
  rintro _ w3 ⟨ov, rfl, ho, x3⟩
  have HO := hid ho
  obtain ⟨ao, co, rfl, o1, o2, o3⟩ := ho
  obtain ⟨bo, fo, rfl, hbo, hco⟩ := o3 (by rw [oneL_len]; exact Nat.mul_pos hn.1 hn.1)
  rw [oneL_len] at o1 HO
  have HCO := hid hco
  unfold matV
  rw [oneL_len]
  have HA3 := hid ((HA2.out.ext x3).ext ((Ext.refl w3).alloc (.cells #[.int .i64 (n : Int), .int .i64 (n : Int), .slice (some ⟨bo, fo, none⟩) (n * n) co] 25)))
  obtain ⟨g0, g1, g2⟩ := HA3.out.at3
  clear hco o3
  gi_wp2_with fail
  refine ((callsIn_wide (n := 6)).2 (chunk_any (some ⟨bo, fo, none⟩) (n * n) co n hn.1 _)).mono ?_
  rintro _ _ ⟨rfl, rfl⟩
  obtain ⟨w4, hw4⟩ : ∃ w4, (w3.alloc (.cells #[.int .i64 (n : Int), .int .i64 (n : Int), .slice (some ⟨bo, fo, none⟩) (n * n) co] 25)).alloc (.cells #[.int .i64 (n : Int), .int .i64 (n : Int), .slice none 0 0] 25) = w4 := ⟨_, rfl⟩
  have x4 : Ext w3 w4 := hw4 ▸ ((Ext.refl w3).alloc _).alloc _
  have hs4 : w4.heap.size = w3.heap.size + 1 + 1 := by rw [← hw4]; simp
  have q4 : Blk w4 (w3.heap.size + 1) 25 #[.int .i64 (n : Int), .int .i64 (n : Int), .slice none 0 0] := hw4 ▸ Blk.at_ (by simp)
  rw [hw4]
  clear hw4 g0 g1 g2
  gi_wp2_with fail
  obtain ⟨w5, hw5⟩ : ∃ w5, (w4.alloc (.cells #[.slice (some ⟨bo, fo, none⟩) (n * n) co] 23)).alloc (.cells #[.int .i64 (n : Int)] 3) = w5 := ⟨_, rfl⟩
  have x5 : Ext w4 w5 := hw5 ▸ ((Ext.refl w4).alloc _).alloc _
  obtain ⟨S3, hS3⟩ : ∃ S3, w3.heap.size = S3 := ⟨_, rfl⟩
  obtain ⟨H, hH⟩ : ∃ H, w.heap.size = H := ⟨_, rfl⟩
  obtain ⟨T2, hT2⟩ : ∃ T2, w2.heap.size = T2 := ⟨_, rfl⟩
  have hs5 : w5.heap.size = S3 + 1 + 1 + 1 + 1 := by rw [← hw5, ← hS3]; simp [hs4]
  have p5 : Blk w5 (S3 + 1 + 1) 23 #[.slice (some ⟨bo, fo, none⟩) (n * n) co] := hw5 ▸ (Blk.at_ (by rw [hs4, hS3])).ext ((Ext.refl _).alloc _)
  have p6 : Blk w5 (S3 + 1 + 1 + 1) 3 #[.int .i64 (n : Int)] := hw5 ▸ Blk.at_ (by simp [hs4, hS3])
  rw [hw5]
  have xw2 : Ext w2 w3 := ((Ext.refl w2).alloc _).trans x3
  have x25 := (xw2.trans x4).trans x5
  have hTS : T2 < S3 := by
    have h := x3.size
    simp at h; omega
  have hHT : H + 1 < T2 := by
    have h := x2.size
    simp at h; omega
  have hApart := hid (((((Blk.new w2 73 #[.slice ar n cr, .slice ac (zL KK).length cc, .slice aC CC.length cC, .slice aU UU.length cU, .int .u64 p, .int .i64 (n : Int)]).ext x3).ext x4).ext x5))
  have hRes := hid (((hb2.out.2.1.ext x2).ext x25))
  have hM5 := hid (HM.out.ext x25)
  have hxw := hid ((hb2.out.2.2.trans x2).trans x25)
  rw [hT2] at hApart
  rw [hH] at hRes
  rw [hS3] at q4 hbo hs4
  have I0 := hid (show InvS w5 w5 (S3 + 1) n (.slice none 0 0) [] from ⟨q4.ext x5, World.ownsRow_nil _ _ _ _, (Ext.refl w5).grownBy _, by omega⟩)
  have hHO := hid fun j (hj : j < n * n) => (show w5.cell? ⟨bo, fo + j, none⟩ = some (.int .u64 ((oneL n).getD j 0)) from (((x4.trans x5).cells bo (fo + j) (by omega)).trans (HCO.out j (by rw [oneL_len]; exact hj))))
  simp only [hH, hS3, hT2]
  have hst := chunk_stops_in Fence.wide 6 trivial rfl (by omega) (S3 + 1 + 1) (S3 + 1 + 1 + 1) bo fo (n * n) co n n rfl hn.2 hn o1 w5 (by omega) (by omega) (p5.cell 0) (p6.cell 0)
  obtain ⟨i0, hi, hz0, hz1, hz2⟩ := info_parts info_u64p
  refine wpIn_rangeFunc_ownF rfl (by omega) (gf := 121) (lb := #[.pointer (some ⟨S3 + 1 + 1, 0, none⟩), .pointer (some ⟨S3 + 1 + 1 + 1, 0, none⟩)]) rfl trivial (enters_of Try.func121 (by kernel_rfl) rfl)
    hst KeepsRow.trans (fun W l o o' hl _ _ _ => KeepsRow.put (n := w5.heap.size) (by omega) (by omega) W l o' hl) (Below.refl _ _) (fun _ => rfl)
    (fun pre W => ∃ tv l, InvS w5 W (S3 + 1) n tv l ∧ l = ((pre.map (·.1)).map (colOf n us)).flatten)
    (fun _ _ _ => False)
    (fun pre W W' row ⟨tv, l, h1, h2⟩ hg hr => ⟨tv, l, h1.own hg hr, h2⟩)
    (fun _ _ _ _ _ hs _ _ => hs)
    ⟨_, _, I0.out, rfl⟩
    (fun x => { tmps := #[.int .u64 p, .agg #[.int .i64 (n : Int), .int .i64 (n : Int), .slice a xs.length cap], undef, .pointer (some ⟨H, 0, none⟩), .pointer (some ⟨H + 1, 0, none⟩), .int .i64 0, .pointer (some ⟨T2, 0, none⟩), .int .i64 0, .pointer (some ⟨S3, 0, none⟩), .int .i64 0, .pointer (some ⟨S3 + 1, 0, none⟩), pieceV bo fo n x.1, undef, undef, .pointer (some ⟨H, 0, none⟩), .int .i64 (n : Int), .pointer (some ⟨H, 1, none⟩), .int .i64 (n : Int), .bool false, undef, .tuple #[.agg #[.slice ar n cr, .slice ac (zL KK).length cc, .slice aC CC.length cC, .slice aU UU.length cU, .int .u64 p, .int .i64 (n : Int)], .int .i64 0], .int .u64 p, .agg #[.int .i64 (n : Int), .int .i64 (n : Int), .slice a xs.length cap], .tuple #[.agg #[.slice ar n cr, .slice ac (zL KK).length cc, .slice aC CC.length cC, .slice aU UU.length cU, .int .u64 p, .int .i64 (n : Int)], .int .i64 0], .agg #[.slice ar n cr, .slice ac (zL KK).length cc, .slice aC CC.length cC, .slice aU UU.length cU, .int .u64 p, .int .i64 (n : Int)], .int .i64 0, .int .i64 0, .bool false, undef, undef, .pointer (some ⟨T2, 0, none⟩), .pointer (some ⟨T2, 0, none⟩), .slice ar n cr, .int .i64 (n : Int), .pointer (some ⟨H, 0, none⟩), .int .i64 (n : Int), .bool false, undef, .tuple #[.agg #[.int .i64 (n : Int), .int .i64 (n : Int), .slice (some ⟨bo, fo, none⟩) (n * n) co], .int .i64 0], .pointer (some ⟨H, 0, none⟩), .int .i64 (n : Int), .tuple #[.agg #[.int .i64 (n : Int), .int .i64 (n : Int), .slice (some ⟨bo, fo, none⟩) (n * n) co], .int .i64 0], .agg #[.int .i64 (n : Int), .int .i64 (n : Int), .slice (some ⟨bo, fo, none⟩) (n * n) co], .int .i64 0, .pointer (some ⟨H, 0, none⟩), .int .i64 (n : Int), .pointer (some ⟨H, 1, none⟩), .int .i64 (n : Int), .agg #[.int .i64 (n : Int), .int .i64 (n : Int), .slice none 0 0], .pointer (some ⟨S3, 2, none⟩), .slice (some ⟨bo, fo, none⟩) (n * n) co, .pointer (some ⟨S3, 1, none⟩), .int .i64 (n : Int), .func (.func 121) #[] #[.pointer (some ⟨S3 + 1 + 1, 0, none⟩), .pointer (some ⟨S3 + 1 + 1 + 1, 0, none⟩)], pieceV bo fo n x.1, undef, undef, undef, undef, undef, undef, undef, undef, undef, undef, undef, undef, undef, undef, undef, undef], defers := [] }) ?assign ?body ?done ?stop
  case assign =>
    intro l x W K hK
    gi_wp2
    exact hK
  case body =>
    rintro l pre ⟨x, hx⟩ W ⟨tv, L, S, hL⟩ hlt
    dsimp only
    have HS := hid S; have HL := hid hL
    have hLl : L.length = pre.length * n := by rw [hL, flat_len n (colOf n us) (fun k => tab_len _ _), List.length_map]
    have hLb : L.length ≤ 4096 := by rw [hLl]; exact Nat.mul_le_mul (show pre.length ≤ 64 by omega) hn.2
    have hAW := S.ext
    have hx2W : Ext w2 W := grown_ext S.ext x25 (by omega)
    have hpc : Ints .u64 W (pieceV bo fo n x) (rowOf n (oneL n) x) := by
      refine ⟨some ⟨bo, fo + x * n, none⟩, n, by rw [rowOf, tab_len]; rfl, by rw [rowOf, tab_len]; omega, by omega, fun _ => ⟨bo, fo + x * n, rfl, ?_, fun j hj => ?_⟩⟩
      · have := hAW.size; omega
      · rw [rowOf, tab_len] at hj
        rw [grown_cell hAW (by omega) (by omega), Nat.add_assoc, hHO.out _ (at_lt hx hj), rowOf, tab_get _ hj]
    have CS := hid ((callsIn_wide (n := 4)).2 (C3.out x hx W _ _ _ _ _ (HM.out.ext hx2W) hpc))
    have hBA := hApart.out.grown hAW (fun e => by injection e with e; omega)
    have q0 := hBA.cell 0; have q1 := hBA.cell 1; have q2 := hBA.cell 2; have q3 := hBA.cell 3; have q4 := hBA.cell 4; have q5 := hBA.cell 5
    obtain ⟨at', ct', rfl, -⟩ := own_slice S.row
    have hcl : (colOf n us x).length = n := tab_len _ _
    obtain ⟨cx, ecx⟩ : ∃ cx, colOf n us x = cx := ⟨_, rfl⟩
    rw [ecx] at CS hcl
    have Ecx := hid ecx; have Hcl := hid hcl
    unfold pieceV at CS ⊢
    clear S hL hLl hAW hpc hBA ecx
    gi_wp2_with fail
    refine (CallsIn.inRound l CS.out).mono ?_
    rintro _ w7 ⟨xv, rfl, hxi, x7⟩
    have S7 := hid (HS.out.ext' x7)
    obtain ⟨ax, kx, rfl, -, -, h3x⟩ := hxi
    rw [hcl] at h3x ⊢
    obtain ⟨bx, ox, rfl, hbx, hcx⟩ := h3x (by omega)
    have HCX := hid hcx
    have t2 := S7.out.box.cell 2
    clear h3x hcx q0 q1 q2 q3 q4 q5
    have hnw : ∀ j u, (cx.map (Value.int .u64))[j]? = some u → w7.cell? ((⟨bx, ox, none⟩ : Addr).add j) = some u := fun j u hu => by
      rw [List.getElem?_map] at hu
      obtain ⟨z, hz, rfl⟩ := Option.map_eq_some_iff.1 hu
      obtain ⟨hj, e⟩ := List.getElem?_eq_some_iff.1 hz
      have := HCX.out j (by rw [← Hcl.out]; exact hj)
      rw [List.getD, hz, Option.getD_some] at this
      rw [show ((⟨bx, ox, none⟩ : Addr).add j) = ⟨bx, ox + j, none⟩ from Go.WideShapes.add_plain _ _ _]
      exact this
    have hnc : ∀ u ∈ cx.map (Value.int .u64), u.oneCell' = true := fun u hu => by
      obtain ⟨z, _, rfl⟩ := List.mem_map.1 hu
      rfl
    have hbs : w5.heap.size ≤ w7.heap.size := S7.out.ext.size
    have hnl : (cx.map (Value.int .u64)).length = n * 1 := by rw [List.length_map, Hcl.out, Nat.mul_one]
    have HNW := hid hnw; have HNC := hid hnc
    clear hnw hnc
    gi_wp2_with (first
      | (gi_at_builtin
         refine wpListIn_append_own _ rfl _ _ 23 rfl w5.heap.size 22 i0 (.int .u64 0) 1 8 Try.underlying23 hi hz0 hz1 hz2 rfl (by decide) _ _ _ rfl S7.out.row ⟨bx, ox, none⟩ n kx (cx.map (Value.int .u64)) rfl hnl HNW.out HNC.out (by simp only [maxLen]; omega) (by omega) hbs ?_
         intro v' w8 hown8 hgrow8 hnil8
         clear hnil8
         have ne8 : (Value.slice at' L.length ct').ownBlock ≠ some (S3 + 1) := fun e => by have := (S7.out.row.lt (S3 + 1) e).1; omega
         have hb8 := S7.out.box.grown hgrow8 ne8
         have t8 := hb8.cell 2
         have f8 := hb8.frozen 2
         have HO8 := hid hown8
         obtain ⟨a8, c8, rfl, -⟩ := own_slice hown8
         clear hown8 hb8)
      | fail)
    clear t8 f8
    have hown9 := HO8.out
    rw [show L.length + n = L.length + cx.length by rw [Hcl.out]] at hown9
    have S9' := S7.out.put hown9 hgrow8
    rw [Hcl.out] at S9'
    have ko : KeepsOthers W (w8.setCell ⟨S3 + 1, 2, none⟩ (.slice a8 (L.length + n) c8)) := ((ko_ext x7).trans (ko_grown S7.out.row hgrow8)).trans (KeepsOthers.setCell _ _ _)
    refine ⟨ko, InvS.keeps HS.out S9' (by omega) (by omega) (by omega) (by omega), _, _, S9', ?_⟩
    rw [List.map_append, List.map_append, List.flatten_append, ← HL.out, List.map_cons, List.map_nil, List.map_cons, List.map_nil, List.flatten_cons, List.flatten_nil, List.append_nil, Ecx.out]
  case done =>
    rintro D ys W hD hys ⟨tv, L, S, hL⟩ hK
    rw [hys, cols_turn] at hL
    have hTL := turnL_len n n us
    rw [← hL] at hTL
    have HS := hid S
    obtain ⟨at', ct', etv, -, hTI⟩ := owns_ints S.row
    have CT := hid ((callsIn_wide (n := 6)).2 (C6.out W tv (hL ▸ hTI)))
    have g0 := S.box.cell 0; have g1 := S.box.cell 1; have g2 := S.box.cell 2
    rw [hTL] at etv
    subst etv
    unfold matV at CT
    clear S hTI hTL hL hys
    gi_wp2_with fail
    refine CT.out.mono ?_
    rintro _ w9 ⟨u9, rfl, hi9, x9⟩
    unfold matV
    have HI9 := hid hi9
    obtain ⟨a9, c9, rfl, -, -, -⟩ := hi9
    have hulp : 0 < us.length := by rw [HUL.out]; exact Nat.mul_pos hn.1 hn.1
    have hB9 := hid ((hRes.out.grown HS.out.ext (fun e => by injection e with e; omega)).ext x9)
    obtain ⟨r0, r1, r2⟩ := hB9.out.at3
    have s0 := hB9.out.frozen 0; have s1 := hB9.out.frozen 1; have s2 := hB9.out.frozen 2
    clear g0 g1 g2
    gi_wp2_with fail
    clear r0 r1 r2 s0 s1 s2
    have hF := (((hB9.out.set_ 0 (.int .i64 (n : Int))).set_ 1 (.int .i64 (n : Int))).set_ 2 (.slice a9 us.length c9))
    have hg9 := ((setCell_grown w9 ⟨H + 1, 0, none⟩ (.int .i64 (n : Int))).trans (setCell_grown _ ⟨H + 1, 1, none⟩ (.int .i64 (n : Int)))).trans (setCell_grown _ ⟨H + 1, 2, none⟩ (.slice a9 us.length c9))
    have ko := (((ko_ext x9).trans (KeepsOthers.setCell w9 ⟨H + 1, 0, none⟩ (.int .i64 (n : Int)))).trans (KeepsOthers.setCell _ ⟨H + 1, 1, none⟩ (.int .i64 (n : Int)))).trans (KeepsOthers.setCell _ ⟨H + 1, 2, none⟩ (.slice a9 us.length c9))
    have hK9 := ko.same D _ hK rfl
    have hW9 : Ext w w9 := (grown_ext HS.out.ext hxw.out (by omega)).trans x9
    have hE9 := grown_ext hg9 hW9 (show w.heap.size ≤ H + 1 by omega)
    have hI9 := HI9.out.grown hg9 (ints_not_mat hB9.out HI9.out hulp)
    obtain ⟨w10, hw10⟩ : ∃ w10, ((w9.setCell ⟨H + 1, 0, none⟩ (.int .i64 (n : Int))).setCell ⟨H + 1, 1, none⟩ (.int .i64 (n : Int))).setCell ⟨H + 1, 2, none⟩ (.slice a9 us.length c9) = w10 := ⟨_, rfl⟩
    rw [hw10] at hF hK9 hE9 hI9 ⊢
    have hDH : D ≠ H + 1 := by omega
    have hF' : Blk (w10.putObj D (.deferred none)) (H + 1) 25 #[.int .i64 (n : Int), .int .i64 (n : Int), .slice a9 us.length c9] := (World.putObj_heap_other (fun e => hDH e.symm)).trans hF
    refine ⟨by simp, .inl ⟨_, _, rfl, run_takeDeferred hK9, ?_⟩⟩
    refine ⟨_, results_cell_row_tmp rfl _ _ (H + 1) 25 _ (0, 0) _ rfl hF' Try.underlying25 rfl (by kernel_rfl), ?_⟩
    exact ⟨_, rfl, hI9.grown (grownBy_putObj' w10 D _) (ints_not_def hK9 hI9 hulp), hE9.grown (grownBy_putObj' w10 D _) (fun k e => by injection e with e; omega)⟩
  case stop =>
    rintro D c pre W _ _ h _
    exact h.elim
end Go.Proofs.Ytfpmcajndgkgeaa
