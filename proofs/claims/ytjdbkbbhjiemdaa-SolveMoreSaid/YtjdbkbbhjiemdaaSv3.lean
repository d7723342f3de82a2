/- Package solve: fill. -/
import Derived.Test.YtjdbkbbhjiemdaaSv2
import Derived.Test.YtjdbkbbhjiemdaaSolB3
import Derived.Test.YtjdbkbbhjiemdaaRound
namespace Go.Proofs.Ytjdbkbbhjiemdaa
open Go.RowKit Go.Maps Go.Shelf

attribute [local go_sem] Oper.semAt_some

theorem cells_of {w : World} {a : Addr} {v : Value} (h : w.cell? a = some v) : ∃ o, w.heap[a.block]? = some o ∧ o.isCells = true := by
  unfold World.cell? at h
  split at h
  · rename_i c t f e
    exact ⟨_, e, rfl⟩
  · cases h
theorem WRow.cells {w : World} {g off : Nat} {xs : List Int} (h : WRow w g off xs) (hl : 1 ≤ xs.length) : ∃ o, w.heap[g]? = some o ∧ o.isCells = true := cells_of (h.2 0 (by omega)).1
theorem WRow.others {w w' : World} {g off : Nat} {xs : List Int} (h : WRow w g off xs) (hl : 1 ≤ xs.length) (hg : w.grownBy w' (some g)) : KeepsOthers w w' := KeepsOthers.of_grownBy hg fun j o e ho => by
  obtain ⟨o', h1, h2⟩ := h.cells hl
  have e : g = j := by injection e
  rw [← e, h1] at ho
  cases ho; exact h2
theorem UsL.pick {w : World} {a : Option Addr} {n cap : Nat} {ls : List (List Int)} (h : UsL w (.slice a n cap) ls) (hl : ls.length = n) : ∃ uf : Nat → Value, ∀ j, j < n → Ints .u64 w (uf j) (ls.getD j []) ∧ ∃ b off, a = some ⟨b, off, none⟩ ∧ b < w.heap.size ∧ w.cell? ⟨b, off + j, none⟩ = some (uf j) := by
  obtain ⟨a', cap', e, -, -, h4⟩ := h
  injection e with e1 e2 e3
  subst e1; subst hl
  have hex : ∀ j, ∃ u, j < ls.length → Ints .u64 w u (ls.getD j []) ∧ ∃ b off, a = some ⟨b, off, none⟩ ∧ b < w.heap.size ∧ w.cell? ⟨b, off + j, none⟩ = some u := fun j => by
    by_cases hj : j < ls.length
    · obtain ⟨b, off, ha, hb, hc⟩ := h4 (by omega)
      obtain ⟨u, c1, c2⟩ := hc j hj
      exact ⟨u, fun _ => ⟨c2, b, off, ha, hb, c1⟩⟩
    · exact ⟨undef, fun h => absurd h hj⟩
  exact ⟨fun j => Classical.choose (hex j), fun j hj => Classical.choose_spec (hex j) hj⟩
theorem KeepsRow.grown {Bs b : Nat} {A B : World} {g : Nat} (hg : A.grownBy B (some g)) (h1 : Bs < A.heap.size) (h2 : b < A.heap.size) (n1 : Bs ≠ g) (n2 : b ≠ g) : KeepsRow Bs b A B :=
  ⟨World.cell?_of_block (a := ⟨Bs, 0, none⟩) (hg.block Bs h1 (fun e => n1 (by injection e))), fun o => World.cell?_of_block (a := ⟨b, o, none⟩) (hg.block b h2 (fun e => n2 (by injection e)))⟩
theorem grown_cell {A B : World} {g b o : Nat} (hg : A.grownBy B (some g)) (h : b < A.heap.size) (n : b ≠ g) : B.cell? ⟨b, o, none⟩ = A.cell? ⟨b, o, none⟩ := World.cell?_of_block (a := ⟨b, o, none⟩) (hg.block b h (fun e => n (by injection e)))
theorem ofFn_ix {r : Nat} : ∀ j (hj : j < (List.ofFn (fun k : Fin r => k)).length), ((List.ofFn (fun k : Fin r => k))[j]).1 = j := fun j hj => by rw [List.getElem_ofFn]
theorem rev_ix {r : Nat} {ys : List (Fin r)} (h : ys = (List.ofFn (fun k : Fin r => k)).reverse) : ys.length = r ∧ ∀ j (hj : j < ys.length), (ys[j]).1 + j + 1 = r := by
  subst h
  refine ⟨by simp, fun j hj => ?_⟩
  rw [List.getElem_reverse, List.getElem_ofFn]
  simp only [List.length_ofFn, List.length_reverse] at hj ⊢
  omega
theorem good_next {r : Nat} {pre : List (Fin r)} {x : Fin r} (h : ∀ j (hj : j < (pre ++ [x]).length), ((pre ++ [x])[j]).1 + j + 1 = r) : (∀ j (hj : j < pre.length), (pre[j]).1 + j + 1 = r) ∧ x.1 + pre.length + 1 = r := by
  refine ⟨fun j hj => ?_, ?_⟩
  · have := h j (by simp; omega)
    rwa [List.getElem_append_left hj] at this
  · have := h pre.length (by simp)
    simpa using this

theorem boxesA3 (w : World) (t t' t'' : TypeId) (A B C : Array Value) :
    Blk (((w.alloc (.cells A t)).alloc (.cells B t')).alloc (.cells C t'')) w.heap.size t A ∧ Blk (((w.alloc (.cells A t)).alloc (.cells B t')).alloc (.cells C t'')) (w.heap.size + 1) t' B ∧
    Blk (((w.alloc (.cells A t)).alloc (.cells B t')).alloc (.cells C t'')) (w.heap.size + 1 + 1) t'' C ∧ Ext w (((w.alloc (.cells A t)).alloc (.cells B t')).alloc (.cells C t'')) :=
  ⟨(Blk.new w t A).ext (((Ext.refl _).alloc _).alloc _), (Blk.at_ (by rw [alloc_size])).ext ((Ext.refl _).alloc _), Blk.at_ (by rw [alloc_size, alloc_size]), (((Ext.refl w).alloc _).alloc _).alloc _⟩
set_option maxRecDepth 100000 in
set_option maxHeartbeats 2000000 in
theorem svFill (p : Int) (m n r : Nat) (C U : List (List Int)) (R K : List Nat) (P : Pt p m n r C U R K) (made x0 : List Int) (hml : made.length = r) (hmr : Rng p made) (rv kv Cv Uv mv : Value) (g cap : Nat) (w0 w : World)
    (hM : PtM w0 C U R K rv kv Cv Uv) (hw0 : Ext w0 w) (hg0 : w0.heap.size ≤ g) (hmv : Ints .u64 w mv made) (hmg : ∀ k, mv.ownBlock = some k → k ≠ g) (hx : WRow w g 0 x0) (hB : Bck p n r U K made x0 r x0) (hc1 : n ≤ cap) (hc2 : cap ≤ 9223372036854775807) :
    Calls Try.prog 43 #[apV rv kv Cv Uv p n, .slice (some ⟨g, 0, none⟩) n cap, mv] w fun e w' => e = .returned (.tuple #[]) ∧ ∃ l, WRow w' g 0 l ∧ Bck p n r U K made x0 0 l ∧ w.grownBy w' (some g) := by
  have hp2 := rightB_true P.ok.hp
  have HP := hid P
  have hn := P.ok.hn; have hr64 := P.ok.hu
  rw [P.ur] at hr64
  have ur := P.ur; have rr := P.rr; have kr := P.kr
  have hHp := hid P.ok.hp
  obtain ⟨hR, hK, hC, hU⟩ := hM
  have HMR := hid hmr; have HML := hid hml
  have HMV := hid hmv
  have HX := hid hx; have HB := hid hB
  obtain ⟨ar, cr, rfl, -, -, -⟩ := hR
  obtain ⟨ak, ck, rfl, k1, k2, k3⟩ := hK
  obtain ⟨aC, cC, rfl, -, -, -⟩ := hC
  have HU := hid hU
  obtain ⟨aU, cU, rfl, u1, u2, u3⟩ := hU
  obtain ⟨am, cm', rfl, m1, m2, m3⟩ := hmv
  rw [zL_len, kr] at k1 k3
  rw [ur] at u1 u3
  rw [ur] at HU
  rw [hml] at m1 m3
  rw [hml] at HMV
  obtain ⟨uf, huf⟩ := HU.out.pick ur
  have HUF := hid huf; have K3 := hid k3; have M3 := hid m3
  obtain ⟨bq, hbq, hbq2⟩ : ∃ bq, (0 < r → ∃ off, aU = some ⟨bq, off, none⟩ ∧ bq < w0.heap.size) ∧ bq < w.heap.size + 1 := by
    rcases Nat.eq_zero_or_pos r with h | h
    · exact ⟨0, fun h' => by omega, by omega⟩
    · obtain ⟨b, off, e, hb, _⟩ := u3 h
      have := hw0.size
      exact ⟨b, fun _ => ⟨off, e, hb⟩, by omega⟩
  have hgw : g < w.heap.size := hx.1
  have hB1 : 1 ≤ x0.length := by rw [hB.len]; exact hn.1
  have hbm : ∀ b o, am = some ⟨b, o, none⟩ → b ≠ g := fun b o e => hmg b (by rw [e]; rfl)
  have HBM := hid hbm
  refine (callsIn_wide (n := 7)).1 ?_
  have f1 : Fence.wide.fn 73 := trivial
  have f2 : Fence.wide.fn 88 := trivial
  unfold apV
  rw [zL_len, zL_len, rr, kr, ur, hml]
  have lC := P.ok.lc
  rw [lC]
  have hb3 := hid (boxesA3 w 65 23 23 #[.slice ar r cr, .slice ak r ck, .slice aC m cC, .slice aU r cU, .int .u64 p, .int .i64 (n : Int)] #[.slice (some ⟨g, 0, none⟩) n cap] #[.slice am r cm'])
  have c3 := hb3.out.1.cell 3
  clear k3 u3 m3 huf hx hB hml hmr hmg hbm P ur rr kr lC
  refine callsIn_of_wp_marks Try.func43 rfl trivial ?_ rfl
  simp only [Try.ntmps43, List.size_toArray, List.length_cons, List.length_nil, Nat.reduceAdd, Nat.reduceSub, Array.replicate_succ, Array.replicate_zero, List.push_toArray, List.append_toArray, List.nil_append, List.cons_append]
  gi_wp2_with fail
  refine (backXS_in Fence.wide 6 trivial rfl _ _ _ _).mono ?_
  rintro _ _ ⟨rfl, rfl⟩
  gi_wp2_with fail
  obtain ⟨w3, hw3⟩ : ∃ w3, (((w.alloc (.cells #[.slice ar r cr, .slice ak r ck, .slice aC m cC, .slice aU r cU, .int .u64 p, .int .i64 (n : Int)] 65)).alloc (.cells #[.slice (some ⟨g, 0, none⟩) n cap] 23)).alloc (.cells #[.slice am r cm'] 23)) = w3 := ⟨_, rfl⟩
  obtain ⟨H, hH⟩ : ∃ H, w.heap.size = H := ⟨_, rfl⟩
  have hs3 : w3.heap.size = H + 1 + 1 + 1 := by rw [← hw3, ← hH]; simp
  rw [hw3] at hb3
  clear c3
  rw [hw3, hH]
  obtain ⟨w5, hw5⟩ : ∃ w5, w3.alloc (.cells #[.slice aU r cU] 61) = w5 := ⟨_, rfl⟩
  have x5 : Ext w3 w5 := hw5 ▸ (Ext.refl w3).alloc _
  have hs5 : w5.heap.size = H + 4 := by rw [← hw5]; simp [hs3]
  have q5 : Blk w5 (H + 1 + 1 + 1) 61 #[.slice aU r cU] := hw5 ▸ Blk.at_ hs3.symm
  have Q1 := hid (hb3.out.1.ext x5); have Q2 := hid (hb3.out.2.1.ext x5); have Q3 := hid (hb3.out.2.2.1.ext x5); have X5 := hid (hb3.out.2.2.2.trans x5)
  rw [hw5]
  rw [hH] at Q1 Q2 Q3
  rw [hH] at hgw hbq2
  clear hw3 hw5 hb3
  have hst := backXS_stops (fun k : Fin r => k.1) (fun k : Fin r => uf k.1) Fence.wide 6 trivial rfl (by omega) (H + 1 + 1 + 1) r cU aU (List.ofFn fun k : Fin r => k) (by simp) ofFn_ix (by omega) w5 (by omega) (q5.cell 0)
    (fun h => by
      obtain ⟨-, b, off, e, hb, -⟩ := HUF.out 0 h
      refine ⟨b, off, e, by have := hw0.size; have := X5.out.size; omega, fun j hj => ?_⟩
      rw [List.length_ofFn] at hj
      obtain ⟨-, b', off', e', hb', hc'⟩ := HUF.out j hj
      rw [e] at e'
      injection e' with e'
      injection e' with e1 e2
      subst e1; subst e2
      rw [List.getElem_ofFn, (hw0.trans X5.out).cells _ _ hb]
      exact hc') bq (fun h => (hbq h).imp fun _ h => h.1)
  refine wpIn_rangeFunc_ownF rfl (by omega) (gf := 88) (lb := #[.pointer (some ⟨H + 1 + 1 + 1, 0, none⟩)]) rfl trivial (enters_of Try.func88 (by kernel_rfl) rfl)
    hst KeepsRow.trans (fun W l o o' hl _ _ _ => KeepsRow.put (n := w5.heap.size) (by omega) (by omega) W l o' hl) (Below.refl _ _) (fun _ => rfl)
    (fun pre W => ∃ l, WRow W g 0 l ∧ l.length = n ∧ Rng p l ∧ ((∀ j (hj : j < pre.length), (pre[j]).1 + j + 1 = r) → Bck p n r U K made x0 (r - pre.length) l) ∧ w5.grownBy W (some g))
    (fun _ _ _ => False)
    (fun pre W W' row ⟨l, h1, h2, h3, h4, h5⟩ hg hr => ⟨l, h1.grown hg (fun e => by have := (hr g e).1; omega), h2, h3, h4, grown_new h5 hg fun k e => (hr k e).1⟩)
    (fun _ _ _ _ _ hs _ _ => hs)
    ⟨x0, HX.out.ext X5.out, HB.out.len, HB.out.rng, fun _ => HB.out, (Ext.refl w5).grownBy _⟩
    (fun x => { tmps := #[.agg #[.slice ar r cr, .slice ak r ck, .slice aC m cC, .slice aU r cU, .int .u64 p, .int .i64 (n : Int)], .slice (some ⟨g, 0, none⟩) n cap, .slice am r cm', .pointer (some ⟨H, 0, none⟩), .pointer (some ⟨H + 1, 0, none⟩), .pointer (some ⟨H + 1 + 1, 0, none⟩), .int .i64 (x.1 : Int), uf x.1, undef, undef, undef, undef,
      .pointer (some ⟨H, 0, none⟩), .pointer (some ⟨H, 3, none⟩), .slice aU r cU, .func (.func 88) #[] #[.pointer (some ⟨H + 1 + 1 + 1, 0, none⟩)], .int .i64 (x.1 : Int), uf x.1, undef, undef, undef, undef, undef, undef, undef, undef, undef, undef, undef, undef, undef, undef, undef, undef, undef, undef, undef, undef, undef, undef, undef, undef, undef, undef, undef, undef, undef, undef, undef, undef, undef, undef, undef, undef, undef, undef, undef, undef, undef, undef, undef], defers := [] }) ?assign ?body ?done ?stop
  case assign =>
    intro l x W K hK
    gi_wp2
    exact hK
  case body =>
    rintro l pre ⟨k, hk⟩ W ⟨L, hrow, hLl, hLr, hgood, hgr⟩ hlt
    dsimp only
    have P := HP.out
    have hr0 : 0 < r := by omega
    obtain ⟨hiu, -⟩ := HUF.out k hk
    obtain ⟨u, eu⟩ : ∃ u, uf k = u := ⟨_, rfl⟩
    rw [eu] at hiu ⊢
    clear eu
    have hul := P.ok.u _ (getD_mem [] (show k < U.length by rw [P.ur]; exact hk))
    have hx0W : Ext w0 W := grown_ext hgr (hw0.trans X5.out) hg0
    have hwW := ((X5.out.grownBy (some g)).trans hgr)
    have hiuW := hid (hiu.ext hx0W)
    have hxw5 := X5.out.size
    have h0s := hw0.size
    obtain ⟨bm, om, rfl, hbm, hcm⟩ := M3.out hr0
    obtain ⟨bk, ok, rfl, hbk, hck⟩ := K3.out hr0
    obtain ⟨au, cu, rfl, -, -, q3⟩ := hiu
    rw [hul.1] at hiuW q3 ⊢
    obtain ⟨bu, ou, rfl, hbu, hcu⟩ := q3 (by omega)
    have hkc := P.klow k hk
    have hunit := P.unit k hk
    have hck2 := hck k hk
    rw [zL_get] at hck2
    obtain ⟨kc, ekc⟩ : ∃ kc, K.getD k 0 = kc := ⟨_, rfl⟩
    have Ekc := hid ekc
    rw [ekc] at hkc hunit hck2
    have hcm2 := hcm k hk
    have hcu2 := hcu kc hkc
    have hmd := HMR.out.getD hp2.1 k
    have hud := hul.2.getD hp2.1 kc
    have hbmg : bm ≠ g := HBM.out bm om rfl
    obtain ⟨bq1, hbq3⟩ := (hbq hr0)
    have hbq4 := hbq3.2
    obtain ⟨s, es, s0, s1⟩ := name_mod (p := p) (sm n fun j => (U.getD k []).getD j 0 * L.getD j 0) hp2.1
    have hdot : dotZ (U.getD k []) L % p = s := by rw [dv_dotZ hul.1 hLl]; exact es
    have hLI := hrow.ints' hLl hc1 hc2
    have ct := hid ((callsIn_wide (n := 4)).2 (dotD_as p s _ _ (U.getD k []) L W hiuW.out hLI (hul.2.u64 hp2.2) (hLr.u64 hp2.2) (by rw [hul.1, hLl]) (hul.2.has hHp.out) (hLr.has hHp.out) hdot))
    have Hul := hid hul
    have Es := hid es
    clear es hdot hLI hcm hck hcu q3 ekc hul
    obtain ⟨md, emd⟩ : ∃ md, made.getD k 0 = md := ⟨_, rfl⟩
    rw [emd] at hcm2 hmd
    have Emd := hid emd
    obtain ⟨uc, euc⟩ : ∃ uc, (U.getD k []).getD kc 0 = uc := ⟨_, rfl⟩
    rw [euc] at hcu2 hud hunit
    have Euc := hid euc
    obtain ⟨d, ed, d0, d1⟩ := name_mod (p := p) (md - s) hp2.1
    obtain ⟨q, eq, q0, q1⟩ := name_mod (p := p) (d * minv p uc) hp2.1
    have Ed := hid ed; have Eq := hid eq; have Hunit := hid hunit
    clear emd euc ed eq hunit
    have CF := hid fun (W' : World) (hS : W.grownBy W' (some g)) => (show W'.cell? ⟨H, 1, none⟩ = some (.slice (some ⟨bk, ok, none⟩) r ck) ∧ W'.cell? ⟨H, 4, none⟩ = some (.int .u64 p) ∧ W'.cell? ⟨H + 1, 0, none⟩ = some (.slice (some ⟨g, 0, none⟩) n cap) ∧ W'.cell? ⟨H + 1 + 1, 0, none⟩ = some (.slice (some ⟨bm, om, none⟩) r cm') ∧ W'.cell? ⟨bm, om + k, none⟩ = some (.int .u64 md) ∧ W'.cell? ⟨bk, ok + k, none⟩ = some (.int .i64 (kc : Int)) ∧ W'.cell? ⟨bu, ou + kc, none⟩ = some (.int .u64 uc) from by
      have g5 := hgr.trans hS
      refine ⟨(grown_cell g5 (by omega) (by omega)).trans (Q1.out.cell 1), (grown_cell g5 (by omega) (by omega)).trans (Q1.out.cell 4), (grown_cell g5 (by omega) (by omega)).trans (Q2.out.cell 0), (grown_cell g5 (by omega) (by omega)).trans (Q3.out.cell 0),
        (grown_cell g5 (by omega) hbmg).trans ((X5.out.cells _ _ hbm).trans hcm2), (grown_cell g5 (by omega) (by omega)).trans (((hw0.trans X5.out).cells _ _ hbk).trans hck2), (grown_cell g5 (by omega) (by omega)).trans (((hw0.trans X5.out).cells _ _ hbu).trans hcu2)⟩)
    have hmx : Try.prog.follows .mixedOrders = true := by kernel_rfl
    have hWrow := hid hrow
    have hgW := hrow.1
    have HG := hid hgood; have HLl := hid hLl; have HLr := hid hLr
    have HGR := hid hgr
    have hsW := hgr.size
    clear hcm2 hck2 hcu2 hrow hgood hLl hLr hgr hwW
    obtain ⟨a1, a4, ax, am, -, -, -⟩ := CF.out W (grown_refl W _)
    gi_wp2_with fail
    refine ⟨trivial, (CallsIn.inRound l ct.out).mono ?_⟩
    rintro _ w6 ⟨rfl, hd6⟩
    have x6 := hd6.ext
    clear a1 a4 ax am hd6
    gi_wp2_with fail
    refine region_round (fun W' => W.grownBy W' (some g)) hmx (by kernel_rfl) (by rintro ⟨_, _, h⟩; exact h) (x6.drew.grownBy _) (fun hHeld => ?_)
    refine wpAnyH_take (i := 0) (v := .pointer (some ⟨H, 4, none⟩)) rfl (by kernel_rfl) (by kernel_rfl) (by kernel_rfl) (fun _ _ _ h => h) (Or.inl ⟨by rfl, ?_⟩) hHeld ?_
    · intro W' hSw
      obtain ⟨b1, b4, bx, bm, cm, ck, cu⟩ := CF.out W' hSw
      go_simp
    refine wpAnyH_take (i := 1) (v := .int .u64 p) rfl (by kernel_rfl) (by kernel_rfl) (by kernel_rfl) (fun _ _ _ h => h) (Or.inl ⟨by rfl, ?_⟩) hHeld ?_
    · intro W' hSw
      obtain ⟨b1, b4, bx, bm, cm, ck, cu⟩ := CF.out W' hSw
      go_simp
    refine wpAnyH_take (i := 2) (v := .slice (some ⟨bm, om, none⟩) r cm') rfl (by kernel_rfl) (by kernel_rfl) (by kernel_rfl) (fun _ _ _ h => h) (Or.inl ⟨by rfl, ?_⟩) hHeld ?_
    · intro W' hSw
      obtain ⟨b1, b4, bx, bm, cm, ck, cu⟩ := CF.out W' hSw
      go_simp
    refine wpAnyH_take (i := 3) (v := .int .i64 (k : Int)) rfl (by kernel_rfl) (by kernel_rfl) (by kernel_rfl) (fun _ _ _ h => h) (Or.inl ⟨by rfl, ?_⟩) hHeld ?_
    · intro W' hSw
      obtain ⟨b1, b4, bx, bm, cm, ck, cu⟩ := CF.out W' hSw
      go_simp
    refine wpAnyH_take (i := 4) (v := .pointer (some ⟨bm, om + k, none⟩)) rfl (by kernel_rfl) (by kernel_rfl) (by kernel_rfl) (fun _ _ _ h => h) (Or.inl ⟨by rfl, ?_⟩) hHeld ?_
    · intro W' hSw
      obtain ⟨b1, b4, bx, bm, cm, ck, cu⟩ := CF.out W' hSw
      go_simp
    refine wpAnyH_take (i := 5) (v := .int .u64 md) rfl (by kernel_rfl) (by kernel_rfl) (by kernel_rfl) (fun _ _ _ h => h) (Or.inl ⟨by rfl, ?_⟩) hHeld ?_
    · intro W' hSw
      obtain ⟨b1, b4, bx, bm, cm, ck, cu⟩ := CF.out W' hSw
      go_simp
    refine wpAnyH_take (i := 6) (v := .int .u64 s) rfl (by kernel_rfl) (by kernel_rfl) (by kernel_rfl) (fun _ _ _ h => h) (Or.inl ⟨by rfl, ?_⟩) hHeld ?_
    · intro W' hSw
      obtain ⟨b1, b4, bx, bm, cm, ck, cu⟩ := CF.out W' hSw
      go_simp
    refine held_step 7 (by kernel_rfl) rfl (fun K hK => ?_)
    go_simp
    go_wp2_with fail
    refine (sub_as p md s d _ hHp.out hmd.1 hmd.2 s0 s1 Ed.out).mono ?_
    rintro _ w7 ⟨rfl, h7⟩
    have x7 : Ext W w7 := x6.drew.trans h7
    go_wp2_with fail
    refine hK.out _ _ (x7.grownBy _) (fun hHeld => ?_)
    clear hK K
    refine wpAnyH_take (i := 8) (v := .tuple #[.int .u64 d, .int .i64 0]) rfl (by kernel_rfl) (by kernel_rfl) (by kernel_rfl) (fun _ _ _ h => h) (Or.inl ⟨by rfl, ?_⟩) hHeld ?_
    · intro W' hSw
      obtain ⟨b1, b4, bx, bm, cm, ck, cu⟩ := CF.out W' hSw
      go_simp
    refine wpAnyH_take (i := 9) (v := .int .u64 d) rfl (by kernel_rfl) (by kernel_rfl) (by kernel_rfl) (fun _ _ _ h => h) (Or.inl ⟨by rfl, ?_⟩) hHeld ?_
    · intro W' hSw
      obtain ⟨b1, b4, bx, bm, cm, ck, cu⟩ := CF.out W' hSw
      go_simp
    refine wpAnyH_take (i := 10) (v := .int .i64 0) rfl (by kernel_rfl) (by kernel_rfl) (by kernel_rfl) (fun _ _ _ h => h) (Or.inl ⟨by rfl, ?_⟩) hHeld ?_
    · intro W' hSw
      obtain ⟨b1, b4, bx, bm, cm, ck, cu⟩ := CF.out W' hSw
      go_simp
    refine wpAnyH_take (i := 11) (v := .int .u64 d) rfl (by kernel_rfl) (by kernel_rfl) (by kernel_rfl) (fun _ _ _ h => h) (Or.inl ⟨by rfl, ?_⟩) hHeld ?_
    · intro W' hSw
      obtain ⟨b1, b4, bx, bm, cm, ck, cu⟩ := CF.out W' hSw
      go_simp
    refine wpAnyH_take (i := 12) (v := .int .i64 0) rfl (by kernel_rfl) (by kernel_rfl) (by kernel_rfl) (fun _ _ _ h => h) (Or.inl ⟨by rfl, ?_⟩) hHeld ?_
    · intro W' hSw
      obtain ⟨b1, b4, bx, bm, cm, ck, cu⟩ := CF.out W' hSw
      go_simp
    refine wpAnyH_done (by kernel_rfl) ?_ _
    gi_wp2_with fail
    refine region_round (fun W' => W.grownBy W' (some g)) hmx (by kernel_rfl) (by rintro ⟨_, _, h⟩; exact h) (x7.drew.grownBy _) (fun hHeld => ?_)
    refine wpAnyH_take (i := 0) (v := .slice (some ⟨g, 0, none⟩) n cap) rfl (by kernel_rfl) (by kernel_rfl) (by kernel_rfl) (fun _ _ _ h => h) (Or.inl ⟨by rfl, ?_⟩) hHeld ?_
    · intro W' hSw
      obtain ⟨b1, b4, bx, bm, cm, ck, cu⟩ := CF.out W' hSw
      go_simp
    refine wpAnyH_take (i := 1) (v := .pointer (some ⟨H, 0, none⟩)) rfl (by kernel_rfl) (by kernel_rfl) (by kernel_rfl) (fun _ _ _ h => h) (Or.inl ⟨by rfl, ?_⟩) hHeld ?_
    · intro W' hSw
      obtain ⟨b1, b4, bx, bm, cm, ck, cu⟩ := CF.out W' hSw
      go_simp
    refine wpAnyH_take (i := 2) (v := .pointer (some ⟨H, 1, none⟩)) rfl (by kernel_rfl) (by kernel_rfl) (by kernel_rfl) (fun _ _ _ h => h) (Or.inl ⟨by rfl, ?_⟩) hHeld ?_
    · intro W' hSw
      obtain ⟨b1, b4, bx, bm, cm, ck, cu⟩ := CF.out W' hSw
      go_simp
    refine wpAnyH_take (i := 3) (v := .slice (some ⟨bk, ok, none⟩) r ck) rfl (by kernel_rfl) (by kernel_rfl) (by kernel_rfl) (fun _ _ _ h => h) (Or.inl ⟨by rfl, ?_⟩) hHeld ?_
    · intro W' hSw
      obtain ⟨b1, b4, bx, bm, cm, ck, cu⟩ := CF.out W' hSw
      go_simp
    refine wpAnyH_take (i := 4) (v := .int .i64 (k : Int)) rfl (by kernel_rfl) (by kernel_rfl) (by kernel_rfl) (fun _ _ _ h => h) (Or.inl ⟨by rfl, ?_⟩) hHeld ?_
    · intro W' hSw
      obtain ⟨b1, b4, bx, bm, cm, ck, cu⟩ := CF.out W' hSw
      go_simp
    refine wpAnyH_take (i := 5) (v := .pointer (some ⟨bk, ok + k, none⟩)) rfl (by kernel_rfl) (by kernel_rfl) (by kernel_rfl) (fun _ _ _ h => h) (Or.inl ⟨by rfl, ?_⟩) hHeld ?_
    · intro W' hSw
      obtain ⟨b1, b4, bx, bm, cm, ck, cu⟩ := CF.out W' hSw
      go_simp
    refine wpAnyH_take (i := 6) (v := .int .i64 (kc : Int)) rfl (by kernel_rfl) (by kernel_rfl) (by kernel_rfl) (fun _ _ _ h => h) (Or.inl ⟨by rfl, ?_⟩) hHeld ?_
    · intro W' hSw
      obtain ⟨b1, b4, bx, bm, cm, ck, cu⟩ := CF.out W' hSw
      go_simp
    refine wpAnyH_take (i := 7) (v := .pointer (some ⟨H, 4, none⟩)) rfl (by kernel_rfl) (by kernel_rfl) (by kernel_rfl) (fun _ _ _ h => h) (Or.inl ⟨by rfl, ?_⟩) hHeld ?_
    · intro W' hSw
      obtain ⟨b1, b4, bx, bm, cm, ck, cu⟩ := CF.out W' hSw
      go_simp
    refine wpAnyH_take (i := 8) (v := .int .u64 p) rfl (by kernel_rfl) (by kernel_rfl) (by kernel_rfl) (fun _ _ _ h => h) (Or.inl ⟨by rfl, ?_⟩) hHeld ?_
    · intro W' hSw
      obtain ⟨b1, b4, bx, bm, cm, ck, cu⟩ := CF.out W' hSw
      go_simp
    refine wpAnyH_take (i := 9) (v := .int .u64 d) rfl (by kernel_rfl) (by kernel_rfl) (by kernel_rfl) (fun _ _ _ h => h) (Or.inl ⟨by rfl, ?_⟩) hHeld ?_
    · intro W' hSw
      obtain ⟨b1, b4, bx, bm, cm, ck, cu⟩ := CF.out W' hSw
      go_simp
    refine wpAnyH_take (i := 10) (v := .slice (some ⟨bu, ou, none⟩) n cu) rfl (by kernel_rfl) (by kernel_rfl) (by kernel_rfl) (fun _ _ _ h => h) (Or.inl ⟨by rfl, ?_⟩) hHeld ?_
    · intro W' hSw
      obtain ⟨b1, b4, bx, bm, cm, ck, cu⟩ := CF.out W' hSw
      go_simp
    refine wpAnyH_take (i := 11) (v := .pointer (some ⟨H, 0, none⟩)) rfl (by kernel_rfl) (by kernel_rfl) (by kernel_rfl) (fun _ _ _ h => h) (Or.inl ⟨by rfl, ?_⟩) hHeld ?_
    · intro W' hSw
      obtain ⟨b1, b4, bx, bm, cm, ck, cu⟩ := CF.out W' hSw
      go_simp
    refine wpAnyH_take (i := 12) (v := .pointer (some ⟨H, 1, none⟩)) rfl (by kernel_rfl) (by kernel_rfl) (by kernel_rfl) (fun _ _ _ h => h) (Or.inl ⟨by rfl, ?_⟩) hHeld ?_
    · intro W' hSw
      obtain ⟨b1, b4, bx, bm, cm, ck, cu⟩ := CF.out W' hSw
      go_simp
    refine wpAnyH_take (i := 13) (v := .slice (some ⟨bk, ok, none⟩) r ck) rfl (by kernel_rfl) (by kernel_rfl) (by kernel_rfl) (fun _ _ _ h => h) (Or.inl ⟨by rfl, ?_⟩) hHeld ?_
    · intro W' hSw
      obtain ⟨b1, b4, bx, bm, cm, ck, cu⟩ := CF.out W' hSw
      go_simp
    refine wpAnyH_take (i := 14) (v := .int .i64 (k : Int)) rfl (by kernel_rfl) (by kernel_rfl) (by kernel_rfl) (fun _ _ _ h => h) (Or.inl ⟨by rfl, ?_⟩) hHeld ?_
    · intro W' hSw
      obtain ⟨b1, b4, bx, bm, cm, ck, cu⟩ := CF.out W' hSw
      go_simp
    refine wpAnyH_take (i := 15) (v := .pointer (some ⟨bk, ok + k, none⟩)) rfl (by kernel_rfl) (by kernel_rfl) (by kernel_rfl) (fun _ _ _ h => h) (Or.inl ⟨by rfl, ?_⟩) hHeld ?_
    · intro W' hSw
      obtain ⟨b1, b4, bx, bm, cm, ck, cu⟩ := CF.out W' hSw
      go_simp
    refine wpAnyH_take (i := 16) (v := .int .i64 (kc : Int)) rfl (by kernel_rfl) (by kernel_rfl) (by kernel_rfl) (fun _ _ _ h => h) (Or.inl ⟨by rfl, ?_⟩) hHeld ?_
    · intro W' hSw
      obtain ⟨b1, b4, bx, bm, cm, ck, cu⟩ := CF.out W' hSw
      go_simp
    refine wpAnyH_take (i := 17) (v := .pointer (some ⟨bu, ou + kc, none⟩)) rfl (by kernel_rfl) (by kernel_rfl) (by kernel_rfl) (fun _ _ _ h => h) (Or.inl ⟨by rfl, ?_⟩) hHeld ?_
    · intro W' hSw
      obtain ⟨b1, b4, bx, bm, cm, ck, cu⟩ := CF.out W' hSw
      go_simp
    refine wpAnyH_take (i := 18) (v := .int .u64 uc) rfl (by kernel_rfl) (by kernel_rfl) (by kernel_rfl) (fun _ _ _ h => h) (Or.inl ⟨by rfl, ?_⟩) hHeld ?_
    · intro W' hSw
      obtain ⟨b1, b4, bx, bm, cm, ck, cu⟩ := CF.out W' hSw
      go_simp
    refine held_step 19 (by kernel_rfl) rfl (fun K hK => ?_)
    go_simp
    go_wp2_with fail
    refine (div_as p d uc q _ hHp.out d0 d1 hud.1 hud.2 Hunit.out Eq.out).mono ?_
    rintro _ w9 ⟨rfl, h9⟩
    have x9 : Ext W w9 := x7.drew.trans h9
    go_wp2_with fail
    refine hK.out _ _ (x9.grownBy _) (fun hHeld => ?_)
    clear hK K
    refine wpAnyH_take (i := 20) (v := .tuple #[.int .u64 q, .int .i64 0]) rfl (by kernel_rfl) (by kernel_rfl) (by kernel_rfl) (fun _ _ _ h => h) (Or.inl ⟨by rfl, ?_⟩) hHeld ?_
    · intro W' hSw
      obtain ⟨b1, b4, bx, bm, cm, ck, cu⟩ := CF.out W' hSw
      go_simp
    refine wpAnyH_take (i := 21) (v := .int .u64 q) rfl (by kernel_rfl) (by kernel_rfl) (by kernel_rfl) (fun _ _ _ h => h) (Or.inl ⟨by rfl, ?_⟩) hHeld ?_
    · intro W' hSw
      obtain ⟨b1, b4, bx, bm, cm, ck, cu⟩ := CF.out W' hSw
      go_simp
    refine wpAnyH_take (i := 22) (v := .int .i64 0) rfl (by kernel_rfl) (by kernel_rfl) (by kernel_rfl) (fun _ _ _ h => h) (Or.inl ⟨by rfl, ?_⟩) hHeld ?_
    · intro W' hSw
      obtain ⟨b1, b4, bx, bm, cm, ck, cu⟩ := CF.out W' hSw
      go_simp
    refine wpAnyH_take (i := 23) (v := .pointer (some ⟨g, kc, none⟩)) rfl (by kernel_rfl) (by kernel_rfl) (by kernel_rfl) (fun _ _ _ h => h) (Or.inl ⟨by rfl, ?_⟩) hHeld ?_
    · intro W' hSw
      obtain ⟨b1, b4, bx, bm, cm, ck, cu⟩ := CF.out W' hSw
      go_simp
    refine held_step 24 (by kernel_rfl) rfl (fun K hK => ?_)
    have hr9 := hWrow.out.ext x9
    have hr9c := (hr9.2 kc (by rw [HLl.out]; exact hkc)).1
    have hr9f := (hr9.2 kc (by rw [HLl.out]; exact hkc)).2
    rw [Nat.zero_add] at hr9c hr9f
    go_simp
    have hfin : W.grownBy (w9.setCell ⟨g, kc, none⟩ (.int .u64 q)) (some g) := (x9.grownBy _).trans (setCell_grown _ _ _)
    refine hK.out _ _ hfin (fun hHeld => ?_)
    clear hK K
    refine wpAnyH_done (by kernel_rfl) ?_ _
    have hset := hr9.set_ (i := kc) (by rw [HLl.out]; exact hkc) q
    rw [Nat.zero_add] at hset
    refine ⟨(ko_ext x9).trans (KeepsOthers.setCell _ _ _), KeepsRow.grown hfin (by omega) (by omega) (by omega) (by omega), L.set kc q, hset, by rw [List.length_set]; exact HLl.out, HLr.out.set'' kc q0 q1, fun hgd => ?_, HGR.out.trans hfin⟩
    obtain ⟨g1, g2⟩ := good_next hgd
    have hb := HG.out g1
    rw [show r - pre.length = k + 1 by simp only at g2; omega] at hb
    have hst := hb.step (d := d) (q := q) HP.out HMR.out hk Es.out (by rw [Emd.out, Ed.out]) (by rw [Ekc.out, Euc.out, Eq.out])
    rw [Ekc.out] at hst
    rw [List.length_append, List.length_cons, List.length_nil, show r - (pre.length + (0 + 1)) = k by simp only at g2; omega]
    exact hst
  case done =>
    rintro D ys W hD hS ⟨L, hrow, hLl, hLr, hgood, hgr⟩ hK
    obtain ⟨hyl, hyg⟩ := rev_ix hS
    have hb := hgood hyg
    rw [hyl, Nat.sub_self] at hb
    gi_wp2
    refine ⟨by simp, .inl ⟨_, _, rfl, run_takeDeferred hK, ?_⟩⟩
    have hxs := X5.out.size
    exact ⟨_, results_none rfl _ _ _, rfl, L, hrow.grown (grownBy_putObj' W D _) (fun e => by injection e with e; omega), hb, grown_new ((X5.out.grownBy (some g)).trans hgr) (grownBy_putObj' W D _) fun k e => by injection e with e; omega⟩
  case stop =>
    rintro D c pre W _ _ h _
    exact h.elim
end Go.Proofs.Ytjdbkbbhjiemdaa
