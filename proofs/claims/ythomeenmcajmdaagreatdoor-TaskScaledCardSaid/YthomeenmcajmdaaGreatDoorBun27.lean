import Derived.Test.YthomeenmcajmdaaGreatDoorBun26
import Derived.Test.YthomeenmcajmdaaGreatDoorBun22
import Derived.Test.YthomeenmcajmdaaGreatDoorBun02
import Derived.Deep.QuietTactic
import Derived.BigQuiet
import Derived.Test.YthomeenmcajmdaaGreatDoorBun04
import Derived.Test.YthomeenmcajmdaaGreatDoorBun06
namespace Go.Proofs.YthomeenmcajmdaaGreatDoor
open Go.RowKit Go.Maps Go.Shelf
attribute [local go_sem] Oper.semAt_some
theorem cells_of {w : World} {a : Addr} {v : Value} (h : w.cell? a = some v) : ∃ o, w.heap[a.block]? = some o ∧ o.isCells = true := by
  unfold World.cell? at h
  split at h
  · rename_i c t f e
    exact ⟨_, e, rfl⟩
  · cases h
theorem WRow.cells {w : World} {g off : Nat} {xs : List Int} (h : WRow w g off xs) (hl : 1 ≤ xs.length) : ∃ o, w.heap[g]? = some o ∧ o.isCells = true := cells_of (h.2 0 (by omega)).1
theorem UsL.pick {w : World} {a : Option Addr} {n cap : Nat} {ls : List (List Int)} (h : UsL w (.slice a n cap) ls) (hl : ls.length = n) : ∃ uf : Nat → Value, ∀ j, j < n → Ints .u64 w (uf j) (ls.getD j []) ∧ ∃ b off, a = some ⟨b, off, none⟩ ∧ b < w.heap.size ∧ w.cell? ⟨b, off + j, none⟩ = some (uf j) := by
  obtain ⟨a', cap', e, -, -, h4⟩ := h
  injection e with e1 e2 e3
  subst e1; subst hl
  have hex : ∀ j, ∃ u, j < ls.length → Ints .u64 w u (ls.getD j []) ∧ ∃ b off, a = some ⟨b, off, none⟩ ∧ b < w.heap.size ∧ w.cell? ⟨b, off + j, none⟩ = some u := fun j => by
    by_cases hj : j < ls.length
    · obtain ⟨b, off, ha, hb, hc⟩ := h4 (by omega)
      obtain ⟨u, c1, c2⟩ := hc j hj
      exact ⟨u, fun _ => ⟨c2, b, off, ha, hb, c1⟩⟩
    · exact ⟨undef, fun h => absurd h hj⟩
  exact ⟨fun j => Classical.choose (hex j), fun j hj => Classical.choose_spec (hex j) hj⟩
theorem KeepsRow.grown {Bs b : Nat} {A B : World} {g : Nat} (hg : A.grownBy B (some g)) (h1 : Bs < A.heap.size) (h2 : b < A.heap.size) (n1 : Bs ≠ g) (n2 : b ≠ g) : KeepsRow Bs b A B :=
  ⟨World.cell?_of_block (a := ⟨Bs, 0, none⟩) (hg.block Bs h1 (fun e => n1 (by injection e))), fun o => World.cell?_of_block (a := ⟨b, o, none⟩) (hg.block b h2 (fun e => n2 (by injection e)))⟩
theorem grown_cell {A B : World} {g b o : Nat} (hg : A.grownBy B (some g)) (h : b < A.heap.size) (n : b ≠ g) : B.cell? ⟨b, o, none⟩ = A.cell? ⟨b, o, none⟩ := World.cell?_of_block (a := ⟨b, o, none⟩) (hg.block b h (fun e => n (by injection e)))
theorem ofFn_ix {r : Nat} : ∀ j (hj : j < (List.ofFn (fun k : Fin r => k)).length), ((List.ofFn (fun k : Fin r => k))[j]).1 = j := fun j hj => by rw [List.getElem_ofFn]
theorem rev_ix {r : Nat} {ys : List (Fin r)} (h : ys = (List.ofFn (fun k : Fin r => k)).reverse) : ys.length = r ∧ ∀ j (hj : j < ys.length), (ys[j]).1 + j + 1 = r := by
  subst h
  refine ⟨by simp, fun j hj => ?_⟩
  rw [List.getElem_reverse, List.getElem_ofFn]
  simp only [List.length_ofFn, List.length_reverse] at hj ⊢
  omega
theorem good_next {r : Nat} {pre : List (Fin r)} {x : Fin r} (h : ∀ j (hj : j < (pre ++ [x]).length), ((pre ++ [x])[j]).1 + j + 1 = r) : (∀ j (hj : j < pre.length), (pre[j]).1 + j + 1 = r) ∧ x.1 + pre.length + 1 = r := by
  refine ⟨fun j hj => ?_, ?_⟩
  · have := h j (by simp; omega)
    rwa [List.getElem_append_left hj] at this
  · have := h pre.length (by simp)
    simpa using this
theorem boxesA3 (w : World) (t t' t'' : TypeId) (A B C : Array Value) :
    Blk (((w.alloc (.cells A t)).alloc (.cells B t')).alloc (.cells C t'')) w.heap.size t A ∧ Blk (((w.alloc (.cells A t)).alloc (.cells B t')).alloc (.cells C t'')) (w.heap.size + 1) t' B ∧
    Blk (((w.alloc (.cells A t)).alloc (.cells B t')).alloc (.cells C t'')) (w.heap.size + 1 + 1) t'' C ∧ Ext w (((w.alloc (.cells A t)).alloc (.cells B t')).alloc (.cells C t'')) :=
  ⟨(Blk.new w t A).ext (((Ext.refl _).alloc _).alloc _), (Blk.at_ (by rw [alloc_size])).ext ((Ext.refl _).alloc _), Blk.at_ (by rw [alloc_size, alloc_size]), (((Ext.refl w).alloc _).alloc _).alloc _⟩
set_option maxRecDepth 100000 in
set_option maxHeartbeats 2000000 in
theorem svFill (p : Int) (m n r : Nat) (C U : List (List Int)) (R K : List Nat) (P : Pt p m n r C U R K) (made x0 : List Int) (hml : made.length = r) (hmr : Rng p made) (rv kv Cv Uv mv : Value) (g cap : Nat) (w0 w : World)
    (hM : PtM w0 C U R K rv kv Cv Uv) (hw0 : Ext w0 w) (hg0 : w0.heap.size ≤ g) (hmv : Ints .u64 w mv made) (hmg : ∀ k, mv.ownBlock = some k → k ≠ g) (hx : WRow w g 0 x0) (hB : Bck p n r U K made x0 r x0) (hc1 : n ≤ cap) (hc2 : cap ≤ 9223372036854775807) :
    Calls Tryz.prog 149 #[apV rv kv Cv Uv p n, .slice (some ⟨g, 0, none⟩) n cap, mv] w fun e w' => e = .returned (.tuple #[]) ∧ ∃ l, WRow w' g 0 l ∧ Bck p n r U K made x0 0 l ∧ w.grownBy w' (some g) := by
  have hp2 := rightB_true P.ok.hp
  have HP := hid P
  have hn := P.ok.hn; have hr64 := P.ok.hu
  rw [P.ur] at hr64
  have ur := P.ur; have rr := P.rr; have kr := P.kr
  have hHp := hid P.ok.hp
  obtain ⟨hR, hK, hC, hU⟩ := hM
  have HMR := hid hmr; have HML := hid hml
  have HMV := hid hmv
  have HX := hid hx; have HB := hid hB
  obtain ⟨ar, cr, rfl, -, -, -⟩ := hR
  obtain ⟨ak, ck, rfl, k1, k2, k3⟩ := hK
  obtain ⟨aC, cC, rfl, -, -, -⟩ := hC
  have HU := hid hU
  obtain ⟨aU, cU, rfl, u1, u2, u3⟩ := hU
  obtain ⟨am, cm', rfl, m1, m2, m3⟩ := hmv
  rw [zL_len, kr] at k1 k3
  rw [ur] at u1 u3
  rw [ur] at HU
  rw [hml] at m1 m3
  rw [hml] at HMV
  obtain ⟨uf, huf⟩ := HU.out.pick ur
  have HUF := hid huf; have K3 := hid k3; have M3 := hid m3
  obtain ⟨bq, hbq, hbq2⟩ : ∃ bq, (0 < r → ∃ off, aU = some ⟨bq, off, none⟩ ∧ bq < w0.heap.size) ∧ bq < w.heap.size + 1 := by
    rcases Nat.eq_zero_or_pos r with h | h
    · exact ⟨0, fun h' => by omega, by omega⟩
    · obtain ⟨b, off, e, hb, _⟩ := u3 h
      have := hw0.size
      exact ⟨b, fun _ => ⟨off, e, hb⟩, by omega⟩
  have hgw : g < w.heap.size := hx.1
  have hB1 : 1 ≤ x0.length := by rw [hB.len]; exact hn.1
  have hbm : ∀ b o, am = some ⟨b, o, none⟩ → b ≠ g := fun b o e => hmg b (by rw [e]; rfl)
  have HBM := hid hbm
  refine (callsIn_wide (n := 7)).1 ?_
  have f1 : Fence.wide.fn 169 := trivial
  have f2 : Fence.wide.fn 175 := trivial
  unfold apV
  rw [zL_len, zL_len, rr, kr, ur, hml]
  have lC := P.ok.lc
  rw [lC]
  have hb3 := hid (boxesA3 w 147 24 24 #[.slice ar r cr, .slice ak r ck, .slice aC m cC, .slice aU r cU, .int .u64 p, .int .i64 (n : Int)] #[.slice (some ⟨g, 0, none⟩) n cap] #[.slice am r cm'])
  have c3 := hb3.out.1.cell 3
  clear k3 u3 m3 huf hx hB hml hmr hmg hbm P ur rr kr lC
  refine callsIn_of_wp_marks Tryz.func149 rfl trivial ?_ rfl
  simp only [Tryz.ntmps149, List.size_toArray, List.length_cons, List.length_nil, Nat.reduceAdd, Nat.reduceSub, Array.replicate_succ, Array.replicate_zero, List.push_toArray, List.append_toArray, List.nil_append, List.cons_append]
  gi_wp2_with fail
  refine (backXS_in Fence.wide 6 trivial rfl _ _ _ _).mono ?_
  rintro _ _ ⟨rfl, rfl⟩
  gi_wp2_with fail
  obtain ⟨w3, hw3⟩ : ∃ w3, (((w.alloc (.cells #[.slice ar r cr, .slice ak r ck, .slice aC m cC, .slice aU r cU, .int .u64 p, .int .i64 (n : Int)] 147)).alloc (.cells #[.slice (some ⟨g, 0, none⟩) n cap] 24)).alloc (.cells #[.slice am r cm'] 24)) = w3 := ⟨_, rfl⟩
  obtain ⟨H, hH⟩ : ∃ H, w.heap.size = H := ⟨_, rfl⟩
  have hs3 : w3.heap.size = H + 1 + 1 + 1 := by rw [← hw3, ← hH]; simp
  rw [hw3] at hb3
  clear c3
  rw [hw3, hH]
  obtain ⟨w5, hw5⟩ : ∃ w5, w3.alloc (.cells #[.slice aU r cU] 56) = w5 := ⟨_, rfl⟩
  have x5 : Ext w3 w5 := hw5 ▸ (Ext.refl w3).alloc _
  have hs5 : w5.heap.size = H + 4 := by rw [← hw5]; simp [hs3]
  have q5 : Blk w5 (H + 1 + 1 + 1) 56 #[.slice aU r cU] := hw5 ▸ Blk.at_ hs3.symm
  have Q1 := hid (hb3.out.1.ext x5); have Q2 := hid (hb3.out.2.1.ext x5); have Q3 := hid (hb3.out.2.2.1.ext x5); have X5 := hid (hb3.out.2.2.2.trans x5)
  rw [hw5]
  rw [hH] at Q1 Q2 Q3
  rw [hH] at hgw hbq2
  clear hw3 hw5 hb3
  have hst := backXS_stops (fun k : Fin r => k.1) (fun k : Fin r => uf k.1) Fence.wide 6 trivial rfl (by omega) (H + 1 + 1 + 1) r cU aU (List.ofFn fun k : Fin r => k) (by simp) ofFn_ix (by omega) w5 (by omega) (q5.cell 0)
    (fun h => by
      obtain ⟨-, b, off, e, hb, -⟩ := HUF.out 0 h
      refine ⟨b, off, e, by have := hw0.size; have := X5.out.size; omega, fun j hj => ?_⟩
      rw [List.length_ofFn] at hj
      obtain ⟨-, b', off', e', hb', hc'⟩ := HUF.out j hj
      rw [e] at e'
      injection e' with e'
      injection e' with e1 e2
      subst e1; subst e2
      rw [List.getElem_ofFn, (hw0.trans X5.out).cells _ _ hb]
      exact hc') bq (fun h => (hbq h).imp fun _ h => h.1)
  refine wpIn_rangeFunc_ownF rfl (by omega) (gf := 175) (lb := #[.pointer (some ⟨H + 1 + 1 + 1, 0, none⟩)]) rfl trivial (enters_of Tryz.func175 (by kernel_rfl) rfl)
    hst KeepsRow.trans (fun W l o o' hl _ _ _ => KeepsRow.put (n := w5.heap.size) (by omega) (by omega) W l o' hl) (Below.refl _ _) (fun _ => rfl)
    (fun pre W => ∃ l, WRow W g 0 l ∧ l.length = n ∧ Rng p l ∧ ((∀ j (hj : j < pre.length), (pre[j]).1 + j + 1 = r) → Bck p n r U K made x0 (r - pre.length) l) ∧ w5.grownBy W (some g))
    (fun _ _ _ => False)
    (fun pre W W' row ⟨l, h1, h2, h3, h4, h5⟩ hg hr => ⟨l, h1.grown hg (fun e => by have := (hr g e).1; omega), h2, h3, h4, grown_new h5 hg fun k e => (hr k e).1⟩)
    (fun _ _ _ _ _ hs _ _ => hs)
    ⟨x0, HX.out.ext X5.out, HB.out.len, HB.out.rng, fun _ => HB.out, (Ext.refl w5).grownBy _⟩
    (fun x => { tmps := #[.agg #[.slice ar r cr, .slice ak r ck, .slice aC m cC, .slice aU r cU, .int .u64 p, .int .i64 (n : Int)], .slice (some ⟨g, 0, none⟩) n cap, .slice am r cm', .pointer (some ⟨H, 0, none⟩), .pointer (some ⟨H + 1, 0, none⟩), .pointer (some ⟨H + 1 + 1, 0, none⟩), .int .i64 (x.1 : Int), uf x.1, undef, undef, undef, undef,
      .pointer (some ⟨H, 0, none⟩), .pointer (some ⟨H, 3, none⟩), .slice aU r cU, .func (.func 175) #[] #[.pointer (some ⟨H + 1 + 1 + 1, 0, none⟩)], .int .i64 (x.1 : Int), uf x.1, undef, undef, undef, undef, undef, undef, undef, undef, undef, undef, undef, undef, undef, undef, undef, undef, undef, undef, undef, undef, undef, undef, undef, undef, undef, undef, undef, undef, undef, undef, undef, undef, undef, undef, undef, undef, undef, undef, undef, undef, undef, undef, undef], defers := [] }) ?assign ?body ?done ?stop
  case assign =>
    intro l x W K hK
    gi_wp2
    exact hK
  case body =>
    rintro l pre ⟨k, hk⟩ W ⟨L, hrow, hLl, hLr, hgood, hgr⟩ hlt
    dsimp only
    have P := HP.out
    have hr0 : 0 < r := by omega
    obtain ⟨hiu, -⟩ := HUF.out k hk
    obtain ⟨u, eu⟩ : ∃ u, uf k = u := ⟨_, rfl⟩
    rw [eu] at hiu ⊢
    clear eu
    have hul := P.ok.u _ (getD_mem [] (show k < U.length by rw [P.ur]; exact hk))
    have hx0W : Ext w0 W := grown_ext hgr (hw0.trans X5.out) hg0
    have hwW := ((X5.out.grownBy (some g)).trans hgr)
    have hiuW := hid (hiu.ext hx0W)
    have hxw5 := X5.out.size
    have h0s := hw0.size
    obtain ⟨bm, om, rfl, hbm, hcm⟩ := M3.out hr0
    obtain ⟨bk, ok, rfl, hbk, hck⟩ := K3.out hr0
    obtain ⟨au, cu, rfl, -, -, q3⟩ := hiu
    rw [hul.1] at hiuW q3 ⊢
    obtain ⟨bu, ou, rfl, hbu, hcu⟩ := q3 (by omega)
    have hkc := P.klow k hk
    have hunit := P.unit k hk
    have hck2 := hck k hk
    rw [zL_get] at hck2
    obtain ⟨kc, ekc⟩ : ∃ kc, K.getD k 0 = kc := ⟨_, rfl⟩
    have Ekc := hid ekc
    rw [ekc] at hkc hunit hck2
    have hcm2 := hcm k hk
    have hcu2 := hcu kc hkc
    have hmd := HMR.out.getD hp2.1 k
    have hud := hul.2.getD hp2.1 kc
    have hbmg : bm ≠ g := HBM.out bm om rfl
    obtain ⟨bq1, hbq3⟩ := (hbq hr0)
    have hbq4 := hbq3.2
    obtain ⟨s, es, s0, s1⟩ := name_mod (p := p) (sm n fun j => (U.getD k []).getD j 0 * L.getD j 0) hp2.1
    have hdot : dotZ (U.getD k []) L % p = s := by rw [dv_dotZ hul.1 hLl]; exact es
    have hLI := hrow.ints' hLl hc1 hc2
    have ct := hid ((callsIn_wide (n := 4)).2 (dotD_as p s _ _ (U.getD k []) L W hiuW.out hLI (hul.2.u64 hp2.2) (hLr.u64 hp2.2) (by rw [hul.1, hLl]) (hul.2.has hHp.out) (hLr.has hHp.out) hdot))
    have Hul := hid hul
    have Es := hid es
    clear es hdot hLI hcm hck hcu q3 ekc hul
    obtain ⟨md, emd⟩ : ∃ md, made.getD k 0 = md := ⟨_, rfl⟩
    rw [emd] at hcm2 hmd
    have Emd := hid emd
    obtain ⟨uc, euc⟩ : ∃ uc, (U.getD k []).getD kc 0 = uc := ⟨_, rfl⟩
    rw [euc] at hcu2 hud hunit
    have Euc := hid euc
    obtain ⟨d, ed, d0, d1⟩ := name_mod (p := p) (md - s) hp2.1
    obtain ⟨q, eq, q0, q1⟩ := name_mod (p := p) (d * minv p uc) hp2.1
    have Ed := hid ed; have Eq := hid eq; have Hunit := hid hunit
    clear emd euc ed eq hunit
    have CF := hid fun (W' : World) (hS : W.grownBy W' (some g)) => (show W'.cell? ⟨H, 1, none⟩ = some (.slice (some ⟨bk, ok, none⟩) r ck) ∧ W'.cell? ⟨H, 4, none⟩ = some (.int .u64 p) ∧ W'.cell? ⟨H + 1, 0, none⟩ = some (.slice (some ⟨g, 0, none⟩) n cap) ∧ W'.cell? ⟨H + 1 + 1, 0, none⟩ = some (.slice (some ⟨bm, om, none⟩) r cm') ∧ W'.cell? ⟨bm, om + k, none⟩ = some (.int .u64 md) ∧ W'.cell? ⟨bk, ok + k, none⟩ = some (.int .i64 (kc : Int)) ∧ W'.cell? ⟨bu, ou + kc, none⟩ = some (.int .u64 uc) from by
      have g5 := hgr.trans hS
      refine ⟨(grown_cell g5 (by omega) (by omega)).trans (Q1.out.cell 1), (grown_cell g5 (by omega) (by omega)).trans (Q1.out.cell 4), (grown_cell g5 (by omega) (by omega)).trans (Q2.out.cell 0), (grown_cell g5 (by omega) (by omega)).trans (Q3.out.cell 0),
        (grown_cell g5 (by omega) hbmg).trans ((X5.out.cells _ _ hbm).trans hcm2), (grown_cell g5 (by omega) (by omega)).trans (((hw0.trans X5.out).cells _ _ hbk).trans hck2), (grown_cell g5 (by omega) (by omega)).trans (((hw0.trans X5.out).cells _ _ hbu).trans hcu2)⟩)
    have hmx : Tryz.prog.follows .mixedOrders = true := by kernel_rfl
    have hWrow := hid hrow
    have hgW := hrow.1
    have HG := hid hgood; have HLl := hid hLl; have HLr := hid hLr
    have HGR := hid hgr
    have hsW := hgr.size
    clear hcm2 hck2 hcu2 hrow hgood hLl hLr hgr hwW
    obtain ⟨a1, a4, ax, am, -, -, -⟩ := CF.out W (grown_refl W _)
    gi_wp2_with fail
    refine ⟨trivial, (CallsIn.inRound l ct.out).mono ?_⟩
    rintro _ w6 ⟨rfl, hd6⟩
    have x6 := hd6.ext
    clear a1 a4 ax am hd6
    gi_wp2_with fail
    refine region_round (fun W' => W.grownBy W' (some g)) hmx (by kernel_rfl) (by rintro ⟨_, _, h⟩; exact h) (x6.drew.grownBy _) (fun hHeld => ?_)
    refine wpAnyH_take (i := 0) (v := .pointer (some ⟨H, 4, none⟩)) rfl (by kernel_rfl) (by kernel_rfl) (by kernel_rfl) (fun _ _ _ h => h) (Or.inl ⟨by rfl, ?_⟩) hHeld ?_
    · intro W' hSw
      obtain ⟨b1, b4, bx, bm, cm, ck, cu⟩ := CF.out W' hSw
      go_simp
    refine wpAnyH_take (i := 1) (v := .int .u64 p) rfl (by kernel_rfl) (by kernel_rfl) (by kernel_rfl) (fun _ _ _ h => h) (Or.inl ⟨by rfl, ?_⟩) hHeld ?_
    · intro W' hSw
      obtain ⟨b1, b4, bx, bm, cm, ck, cu⟩ := CF.out W' hSw
      go_simp
    refine wpAnyH_take (i := 2) (v := .slice (some ⟨bm, om, none⟩) r cm') rfl (by kernel_rfl) (by kernel_rfl) (by kernel_rfl) (fun _ _ _ h => h) (Or.inl ⟨by rfl, ?_⟩) hHeld ?_
    · intro W' hSw
      obtain ⟨b1, b4, bx, bm, cm, ck, cu⟩ := CF.out W' hSw
      go_simp
    refine wpAnyH_take (i := 3) (v := .int .i64 (k : Int)) rfl (by kernel_rfl) (by kernel_rfl) (by kernel_rfl) (fun _ _ _ h => h) (Or.inl ⟨by rfl, ?_⟩) hHeld ?_
    · intro W' hSw
      obtain ⟨b1, b4, bx, bm, cm, ck, cu⟩ := CF.out W' hSw
      go_simp
    refine wpAnyH_take (i := 4) (v := .pointer (some ⟨bm, om + k, none⟩)) rfl (by kernel_rfl) (by kernel_rfl) (by kernel_rfl) (fun _ _ _ h => h) (Or.inl ⟨by rfl, ?_⟩) hHeld ?_
    · intro W' hSw
      obtain ⟨b1, b4, bx, bm, cm, ck, cu⟩ := CF.out W' hSw
      go_simp
    refine wpAnyH_take (i := 5) (v := .int .u64 md) rfl (by kernel_rfl) (by kernel_rfl) (by kernel_rfl) (fun _ _ _ h => h) (Or.inl ⟨by rfl, ?_⟩) hHeld ?_
    · intro W' hSw
      obtain ⟨b1, b4, bx, bm, cm, ck, cu⟩ := CF.out W' hSw
      go_simp
    refine wpAnyH_take (i := 6) (v := .int .u64 s) rfl (by kernel_rfl) (by kernel_rfl) (by kernel_rfl) (fun _ _ _ h => h) (Or.inl ⟨by rfl, ?_⟩) hHeld ?_
    · intro W' hSw
      obtain ⟨b1, b4, bx, bm, cm, ck, cu⟩ := CF.out W' hSw
      go_simp
    refine held_step 7 (by kernel_rfl) rfl (fun K hK => ?_)
    go_simp
    go_wp2_with fail
    refine (sub_as p md s d _ hHp.out hmd.1 hmd.2 s0 s1 Ed.out).mono ?_
    rintro _ w7 ⟨rfl, h7⟩
    have x7 : Ext W w7 := x6.drew.trans h7
    go_wp2_with fail
    refine hK.out _ _ (x7.grownBy _) (fun hHeld => ?_)
    clear hK K
    refine wpAnyH_take (i := 8) (v := .tuple #[.int .u64 d, .int .i64 0]) rfl (by kernel_rfl) (by kernel_rfl) (by kernel_rfl) (fun _ _ _ h => h) (Or.inl ⟨by rfl, ?_⟩) hHeld ?_
    · intro W' hSw
      obtain ⟨b1, b4, bx, bm, cm, ck, cu⟩ := CF.out W' hSw
      go_simp
    refine wpAnyH_take (i := 9) (v := .int .u64 d) rfl (by kernel_rfl) (by kernel_rfl) (by kernel_rfl) (fun _ _ _ h => h) (Or.inl ⟨by rfl, ?_⟩) hHeld ?_
    · intro W' hSw
      obtain ⟨b1, b4, bx, bm, cm, ck, cu⟩ := CF.out W' hSw
      go_simp
    refine wpAnyH_take (i := 10) (v := .int .i64 0) rfl (by kernel_rfl) (by kernel_rfl) (by kernel_rfl) (fun _ _ _ h => h) (Or.inl ⟨by rfl, ?_⟩) hHeld ?_
    · intro W' hSw
      obtain ⟨b1, b4, bx, bm, cm, ck, cu⟩ := CF.out W' hSw
      go_simp
    refine wpAnyH_take (i := 11) (v := .int .u64 d) rfl (by kernel_rfl) (by kernel_rfl) (by kernel_rfl) (fun _ _ _ h => h) (Or.inl ⟨by rfl, ?_⟩) hHeld ?_
    · intro W' hSw
      obtain ⟨b1, b4, bx, bm, cm, ck, cu⟩ := CF.out W' hSw
      go_simp
    refine wpAnyH_take (i := 12) (v := .int .i64 0) rfl (by kernel_rfl) (by kernel_rfl) (by kernel_rfl) (fun _ _ _ h => h) (Or.inl ⟨by rfl, ?_⟩) hHeld ?_
    · intro W' hSw
      obtain ⟨b1, b4, bx, bm, cm, ck, cu⟩ := CF.out W' hSw
      go_simp
    refine wpAnyH_done (by kernel_rfl) ?_ _
    gi_wp2_with fail
    refine region_round (fun W' => W.grownBy W' (some g)) hmx (by kernel_rfl) (by rintro ⟨_, _, h⟩; exact h) (x7.drew.grownBy _) (fun hHeld => ?_)
    refine wpAnyH_take (i := 0) (v := .slice (some ⟨g, 0, none⟩) n cap) rfl (by kernel_rfl) (by kernel_rfl) (by kernel_rfl) (fun _ _ _ h => h) (Or.inl ⟨by rfl, ?_⟩) hHeld ?_
    · intro W' hSw
      obtain ⟨b1, b4, bx, bm, cm, ck, cu⟩ := CF.out W' hSw
      go_simp
    refine wpAnyH_take (i := 1) (v := .pointer (some ⟨H, 0, none⟩)) rfl (by kernel_rfl) (by kernel_rfl) (by kernel_rfl) (fun _ _ _ h => h) (Or.inl ⟨by rfl, ?_⟩) hHeld ?_
    · intro W' hSw
      obtain ⟨b1, b4, bx, bm, cm, ck, cu⟩ := CF.out W' hSw
      go_simp
    refine wpAnyH_take (i := 2) (v := .pointer (some ⟨H, 1, none⟩)) rfl (by kernel_rfl) (by kernel_rfl) (by kernel_rfl) (fun _ _ _ h => h) (Or.inl ⟨by rfl, ?_⟩) hHeld ?_
    · intro W' hSw
      obtain ⟨b1, b4, bx, bm, cm, ck, cu⟩ := CF.out W' hSw
      go_simp
    refine wpAnyH_take (i := 3) (v := .slice (some ⟨bk, ok, none⟩) r ck) rfl (by kernel_rfl) (by kernel_rfl) (by kernel_rfl) (fun _ _ _ h => h) (Or.inl ⟨by rfl, ?_⟩) hHeld ?_
    · intro W' hSw
      obtain ⟨b1, b4, bx, bm, cm, ck, cu⟩ := CF.out W' hSw
      go_simp
    refine wpAnyH_take (i := 4) (v := .int .i64 (k : Int)) rfl (by kernel_rfl) (by kernel_rfl) (by kernel_rfl) (fun _ _ _ h => h) (Or.inl ⟨by rfl, ?_⟩) hHeld ?_
    · intro W' hSw
      obtain ⟨b1, b4, bx, bm, cm, ck, cu⟩ := CF.out W' hSw
      go_simp
    refine wpAnyH_take (i := 5) (v := .pointer (some ⟨bk, ok + k, none⟩)) rfl (by kernel_rfl) (by kernel_rfl) (by kernel_rfl) (fun _ _ _ h => h) (Or.inl ⟨by rfl, ?_⟩) hHeld ?_
    · intro W' hSw
      obtain ⟨b1, b4, bx, bm, cm, ck, cu⟩ := CF.out W' hSw
      go_simp
    refine wpAnyH_take (i := 6) (v := .int .i64 (kc : Int)) rfl (by kernel_rfl) (by kernel_rfl) (by kernel_rfl) (fun _ _ _ h => h) (Or.inl ⟨by rfl, ?_⟩) hHeld ?_
    · intro W' hSw
      obtain ⟨b1, b4, bx, bm, cm, ck, cu⟩ := CF.out W' hSw
      go_simp
    refine wpAnyH_take (i := 7) (v := .pointer (some ⟨H, 4, none⟩)) rfl (by kernel_rfl) (by kernel_rfl) (by kernel_rfl) (fun _ _ _ h => h) (Or.inl ⟨by rfl, ?_⟩) hHeld ?_
    · intro W' hSw
      obtain ⟨b1, b4, bx, bm, cm, ck, cu⟩ := CF.out W' hSw
      go_simp
    refine wpAnyH_take (i := 8) (v := .int .u64 p) rfl (by kernel_rfl) (by kernel_rfl) (by kernel_rfl) (fun _ _ _ h => h) (Or.inl ⟨by rfl, ?_⟩) hHeld ?_
    · intro W' hSw
      obtain ⟨b1, b4, bx, bm, cm, ck, cu⟩ := CF.out W' hSw
      go_simp
    refine wpAnyH_take (i := 9) (v := .int .u64 d) rfl (by kernel_rfl) (by kernel_rfl) (by kernel_rfl) (fun _ _ _ h => h) (Or.inl ⟨by rfl, ?_⟩) hHeld ?_
    · intro W' hSw
      obtain ⟨b1, b4, bx, bm, cm, ck, cu⟩ := CF.out W' hSw
      go_simp
    refine wpAnyH_take (i := 10) (v := .slice (some ⟨bu, ou, none⟩) n cu) rfl (by kernel_rfl) (by kernel_rfl) (by kernel_rfl) (fun _ _ _ h => h) (Or.inl ⟨by rfl, ?_⟩) hHeld ?_
    · intro W' hSw
      obtain ⟨b1, b4, bx, bm, cm, ck, cu⟩ := CF.out W' hSw
      go_simp
    refine wpAnyH_take (i := 11) (v := .pointer (some ⟨H, 0, none⟩)) rfl (by kernel_rfl) (by kernel_rfl) (by kernel_rfl) (fun _ _ _ h => h) (Or.inl ⟨by rfl, ?_⟩) hHeld ?_
    · intro W' hSw
      obtain ⟨b1, b4, bx, bm, cm, ck, cu⟩ := CF.out W' hSw
      go_simp
    refine wpAnyH_take (i := 12) (v := .pointer (some ⟨H, 1, none⟩)) rfl (by kernel_rfl) (by kernel_rfl) (by kernel_rfl) (fun _ _ _ h => h) (Or.inl ⟨by rfl, ?_⟩) hHeld ?_
    · intro W' hSw
      obtain ⟨b1, b4, bx, bm, cm, ck, cu⟩ := CF.out W' hSw
      go_simp
    refine wpAnyH_take (i := 13) (v := .slice (some ⟨bk, ok, none⟩) r ck) rfl (by kernel_rfl) (by kernel_rfl) (by kernel_rfl) (fun _ _ _ h => h) (Or.inl ⟨by rfl, ?_⟩) hHeld ?_
    · intro W' hSw
      obtain ⟨b1, b4, bx, bm, cm, ck, cu⟩ := CF.out W' hSw
      go_simp
    refine wpAnyH_take (i := 14) (v := .int .i64 (k : Int)) rfl (by kernel_rfl) (by kernel_rfl) (by kernel_rfl) (fun _ _ _ h => h) (Or.inl ⟨by rfl, ?_⟩) hHeld ?_
    · intro W' hSw
      obtain ⟨b1, b4, bx, bm, cm, ck, cu⟩ := CF.out W' hSw
      go_simp
    refine wpAnyH_take (i := 15) (v := .pointer (some ⟨bk, ok + k, none⟩)) rfl (by kernel_rfl) (by kernel_rfl) (by kernel_rfl) (fun _ _ _ h => h) (Or.inl ⟨by rfl, ?_⟩) hHeld ?_
    · intro W' hSw
      obtain ⟨b1, b4, bx, bm, cm, ck, cu⟩ := CF.out W' hSw
      go_simp
    refine wpAnyH_take (i := 16) (v := .int .i64 (kc : Int)) rfl (by kernel_rfl) (by kernel_rfl) (by kernel_rfl) (fun _ _ _ h => h) (Or.inl ⟨by rfl, ?_⟩) hHeld ?_
    · intro W' hSw
      obtain ⟨b1, b4, bx, bm, cm, ck, cu⟩ := CF.out W' hSw
      go_simp
    refine wpAnyH_take (i := 17) (v := .pointer (some ⟨bu, ou + kc, none⟩)) rfl (by kernel_rfl) (by kernel_rfl) (by kernel_rfl) (fun _ _ _ h => h) (Or.inl ⟨by rfl, ?_⟩) hHeld ?_
    · intro W' hSw
      obtain ⟨b1, b4, bx, bm, cm, ck, cu⟩ := CF.out W' hSw
      go_simp
    refine wpAnyH_take (i := 18) (v := .int .u64 uc) rfl (by kernel_rfl) (by kernel_rfl) (by kernel_rfl) (fun _ _ _ h => h) (Or.inl ⟨by rfl, ?_⟩) hHeld ?_
    · intro W' hSw
      obtain ⟨b1, b4, bx, bm, cm, ck, cu⟩ := CF.out W' hSw
      go_simp
    refine held_step 19 (by kernel_rfl) rfl (fun K hK => ?_)
    go_simp
    go_wp2_with fail
    refine (div_as p d uc q _ hHp.out d0 d1 hud.1 hud.2 Hunit.out Eq.out).mono ?_
    rintro _ w9 ⟨rfl, h9⟩
    have x9 : Ext W w9 := x7.drew.trans h9
    go_wp2_with fail
    refine hK.out _ _ (x9.grownBy _) (fun hHeld => ?_)
    clear hK K
    refine wpAnyH_take (i := 20) (v := .tuple #[.int .u64 q, .int .i64 0]) rfl (by kernel_rfl) (by kernel_rfl) (by kernel_rfl) (fun _ _ _ h => h) (Or.inl ⟨by rfl, ?_⟩) hHeld ?_
    · intro W' hSw
      obtain ⟨b1, b4, bx, bm, cm, ck, cu⟩ := CF.out W' hSw
      go_simp
    refine wpAnyH_take (i := 21) (v := .int .u64 q) rfl (by kernel_rfl) (by kernel_rfl) (by kernel_rfl) (fun _ _ _ h => h) (Or.inl ⟨by rfl, ?_⟩) hHeld ?_
    · intro W' hSw
      obtain ⟨b1, b4, bx, bm, cm, ck, cu⟩ := CF.out W' hSw
      go_simp
    refine wpAnyH_take (i := 22) (v := .int .i64 0) rfl (by kernel_rfl) (by kernel_rfl) (by kernel_rfl) (fun _ _ _ h => h) (Or.inl ⟨by rfl, ?_⟩) hHeld ?_
    · intro W' hSw
      obtain ⟨b1, b4, bx, bm, cm, ck, cu⟩ := CF.out W' hSw
      go_simp
    refine wpAnyH_take (i := 23) (v := .pointer (some ⟨g, kc, none⟩)) rfl (by kernel_rfl) (by kernel_rfl) (by kernel_rfl) (fun _ _ _ h => h) (Or.inl ⟨by rfl, ?_⟩) hHeld ?_
    · intro W' hSw
      obtain ⟨b1, b4, bx, bm, cm, ck, cu⟩ := CF.out W' hSw
      go_simp
    refine held_step 24 (by kernel_rfl) rfl (fun K hK => ?_)
    have hr9 := hWrow.out.ext x9
    have hr9c := (hr9.2 kc (by rw [HLl.out]; exact hkc)).1
    have hr9f := (hr9.2 kc (by rw [HLl.out]; exact hkc)).2
    rw [Nat.zero_add] at hr9c hr9f
    go_simp
    have hfin : W.grownBy (w9.setCell ⟨g, kc, none⟩ (.int .u64 q)) (some g) := (x9.grownBy _).trans (setCell_grown _ _ _)
    refine hK.out _ _ hfin (fun hHeld => ?_)
    clear hK K
    refine wpAnyH_done (by kernel_rfl) ?_ _
    have hset := hr9.set_ (i := kc) (by rw [HLl.out]; exact hkc) q
    rw [Nat.zero_add] at hset
    refine ⟨(ko_ext x9).trans (KeepsOthers.setCell _ _ _), KeepsRow.grown hfin (by omega) (by omega) (by omega) (by omega), L.set kc q, hset, by rw [List.length_set]; exact HLl.out, HLr.out.set'' kc q0 q1, fun hgd => ?_, HGR.out.trans hfin⟩
    obtain ⟨g1, g2⟩ := good_next hgd
    have hb := HG.out g1
    rw [show r - pre.length = k + 1 by simp only at g2; omega] at hb
    have hst := hb.step (d := d) (q := q) HP.out HMR.out hk Es.out (by rw [Emd.out, Ed.out]) (by rw [Ekc.out, Euc.out, Eq.out])
    rw [Ekc.out] at hst
    rw [List.length_append, List.length_cons, List.length_nil, show r - (pre.length + (0 + 1)) = k by simp only at g2; omega]
    exact hst
  case done =>
    rintro D ys W hD hS ⟨L, hrow, hLl, hLr, hgood, hgr⟩ hK
    obtain ⟨hyl, hyg⟩ := rev_ix hS
    have hb := hgood hyg
    rw [hyl, Nat.sub_self] at hb
    gi_wp2
    refine ⟨by simp, .inl ⟨_, _, rfl, run_takeDeferred hK, ?_⟩⟩
    have hxs := X5.out.size
    exact ⟨_, results_none rfl _ _ _, rfl, L, hrow.grown (grownBy_putObj' W D _) (fun e => by injection e with e; omega), hb, grown_new ((X5.out.grownBy (some g)).trans hgr) (grownBy_putObj' W D _) fun k e => by injection e with e; omega⟩
  case stop =>
    rintro D c pre W _ _ h _
    exact h.elim
end Go.Proofs.YthomeenmcajmdaaGreatDoor
namespace Go.Proofs.YthomeenmcajmdaaGreatDoor
open Go.RowKit
def RetE (code : Int) (l : List Int) (w : World) (e : Ending) (w' : World) : Prop := ∃ v, e = .returned (.tuple #[v, .int .i64 code]) ∧ Ints .u64 w' v l ∧ Ext w w'
end Go.Proofs.YthomeenmcajmdaaGreatDoor
namespace Go.Proofs.YthomeenmcajmdaaGreatDoor
open Go.RowKit Go.Maps
def RetSol (p : Int) (m n r : Nat) (C U : List (List Int)) (R K : List Nat) (b : List Int) (w : World) (e : Ending) (w' : World) : Prop :=
  ∃ made, Fwd p r C R b r made ∧ ((∃ i, i < m ∧ (sm r fun t => (C.getD i []).getD t 0 * made.getD t 0) % p ≠ b.getD i 0) ∧ RetE 6 [] w e w' ∨
    (∀ i, i < m → (sm r fun t => (C.getD i []).getD t 0 * made.getD t 0) % p = b.getD i 0) ∧ ∃ x, Bck p n r U K made (List.replicate n 0) 0 x ∧ RetE 0 x w e w')
set_option maxRecDepth 100000 in
set_option maxHeartbeats 2000000 in
theorem svSolveA (p : Int) (m n r : Nat) (C U : List (List Int)) (R K : List Nat) (P : Pt p m n r C U R K) (b : List Int) (hbl : b.length = m) (hbr : Rng p b) (rv kv Cv Uv bv : Value) (w : World)
    (hM : PtM w C U R K rv kv Cv Uv) (hbv : Ints .u64 w bv b) :
    Calls Tryz.prog 120 #[apV rv kv Cv Uv p n, bv] w (RetSol p m n r C U R K b w) := by
  have hp2 := rightB_true P.ok.hp
  have HP := hid P; have HM := hid hM
  have hn := P.ok.hn; have hr64 := P.ok.hu; have hm := P.ok.hm
  rw [P.ur] at hr64
  have ur := P.ur; have rr := P.rr; have kr := P.kr; have lC := P.ok.lc
  have hHp := hid P.ok.hp
  have HBR := hid hbr
  obtain ⟨hR, hK, hC, hU⟩ := hM
  obtain ⟨ar, cr, rfl, r1, r2, r3⟩ := hR
  obtain ⟨ak, ck, rfl, -, -, -⟩ := hK
  have HC := hid hC
  obtain ⟨aC, cC, rfl, -, -, u3⟩ := hC
  obtain ⟨aU, cU, rfl, -, -, -⟩ := hU
  obtain ⟨ab, cb', rfl, m1, m2, m3⟩ := hbv
  rw [zL_len, rr] at r1 r3
  rw [lC] at HC u3
  rw [hbl] at m1 m3
  obtain ⟨uf, huf⟩ := HC.out.pick lC
  have HUF := hid huf; have R3 := hid r3
  obtain ⟨bb, ob, rfl, hbb, hcb⟩ := m3 (by omega)
  obtain ⟨bC, oC, rfl, hbC, -⟩ := u3 (by omega)
  have Hcb := hid hcb
  unfold apV
  rw [zL_len, zL_len] at HM ⊢
  rw [rr, kr, ur, lC] at HM ⊢
  rw [hbl]
  have hmk := make_ints (P := Tryz.prog) 24 22 .u64 8 (by omega) (by kernel_rfl) (by kernel_rfl) r r (Nat.le_refl _) (by omega)
  have hmk2 := make_ints (P := Tryz.prog) 24 22 .u64 8 (by omega) (by kernel_rfl) (by kernel_rfl) n n (Nat.le_refl _) (by omega)
  have hA := hid (Blk.new w 147 #[.slice ar r cr, .slice ak r ck, .slice (some ⟨bC, oC, none⟩) m cC, .slice aU r cU, .int .u64 p, .int .i64 (n : Int)])
  have c3 := hA.out.cell 3
  have hmx : Tryz.prog.follows .mixedOrders = true := by kernel_rfl
  obtain ⟨w1, hw1⟩ : ∃ w1, w.alloc (.cells #[.slice ar r cr, .slice ak r ck, .slice (some ⟨bC, oC, none⟩) m cC, .slice aU r cU, .int .u64 p, .int .i64 (n : Int)] 147) = w1 := ⟨_, rfl⟩
  have x1 : Ext w w1 := hw1 ▸ (Ext.refl w).alloc _
  have X1 := hid x1
  have hs1 : w1.heap.size = w.heap.size + 1 := by rw [← hw1]; simp
  rw [hw1] at hA
  have c0' := hA.out.cell 0
  have HW1 := hid hw1
  have c0 : (w1.alloc (.cells (madeCells #[Value.int .u64 0] r) 22)).cell? ⟨w.heap.size, 0, none⟩ = some (.slice ar r cr) := (((Ext.refl w1).alloc _).cells _ _ (by omega)).trans c0'
  rw [← hw1] at c0
  clear r3 u3 m3 huf hbr P ur rr kr lC c0' hw1 hbl hcb x1
  go_enter Tryz.func120, Tryz.ntmps120
  go_wp2_with fail
  rw [HW1.out]
  obtain ⟨H, hH⟩ : ∃ H, w.heap.size = H := ⟨_, rfl⟩
  rw [hH] at hA hs1 ⊢
  have HF0 := hid (Fwd.start (r := r) (C := C) (R := R) hp2.1 b)
  have HC0 := hid (WRow.made (t := 22) (n := r) (w := w1) (g := H + 1) hs1.symm)
  clear c0 c3 hmk
  go_loopw [25] (fun kv wr => ∃ (k : Nat) (l : List Int), kv = .int .i64 k ∧ k ≤ r ∧ Hid (Fwd p r C R b k l) ∧ Hid (WRow wr (H + 1) 0 l) ∧ Ext w1 wr) (fun kv _ => r - (intOf kv).toNat)
  case atStart => exact ⟨0, _, rfl, Nat.zero_le _, HF0, HC0, (Ext.refl _).alloc _⟩
  case round =>
    clear HF0 HC0
    obtain ⟨k, l, rfl, hk, HF, HL, hx⟩ := hrel
    have hsz := hx.size
    by_cases hlt : k < r
    · obtain ⟨bR, oR, rfl, hbR, hcR⟩ := R3.out (by omega)
      have P := HP.out
      have hi := P.rlow k hlt
      have hcR2 := hcR k hlt
      rw [zL_get] at hcR2
      obtain ⟨i, ei⟩ : ∃ i, R.getD k 0 = i := ⟨_, rfl⟩
      rw [ei] at hcR2 hi
      have Ei := hid ei
      obtain ⟨hiu, b', o', e', -, hcu⟩ := HUF.out i hi
      injection e' with e'
      injection e' with e1 e2
      subst e1; subst e2
      obtain ⟨u, eu⟩ : ∃ u, uf i = u := ⟨_, rfl⟩
      rw [eu] at hiu hcu
      have hcl := P.ok.c _ (getD_mem [] (show i < C.length by rw [P.ok.lc]; exact hi))
      rw [P.ur] at hcl
      have hiuW := hid (hiu.ext (X1.out.trans hx))
      obtain ⟨au, cu, rfl, -, -, -⟩ := hiu
      rw [hcl.1] at hiuW hcu
      have hbi := HBR.out.getD hp2.1 i
      have hcb2 := Hcb.out i hi
      obtain ⟨s, es, s0, s1⟩ := name_mod (p := p) (sm r fun t => (C.getD i []).getD t 0 * l.getD t 0) hp2.1
      have hdot : dotZ (C.getD i []) l % p = s := by rw [dv_dotZ hcl.1 HF.out.len]; exact es
      have hLI := HL.out.ints' HF.out.len (Nat.le_refl r) (by omega)
      have CD := hid fun (W : World) (hW : Ext wr W) => dotD_as p s _ _ (C.getD i []) l W (hiuW.out.ext hW) (hLI.ext hW) (hcl.2.u64 hp2.2) (HF.out.rng.u64 hp2.2) (by rw [hcl.1, HF.out.len]) (hcl.2.has hHp.out) (HF.out.rng.has hHp.out) hdot
      have Es := hid es
      obtain ⟨bi, ebi⟩ : ∃ bi, b.getD i 0 = bi := ⟨_, rfl⟩
      rw [ebi] at hbi hcb2
      obtain ⟨x, ex, x0, x1⟩ := name_mod (p := p) (bi - s) hp2.1
      have Ex := hid ex; have Ebi := hid ebi
      clear hcR ei eu es hdot hLI hcl ebi ex
      have CF := hid fun (W' : World) (hS : wr.grownBy W' (some (H + 1))) => (show W'.cell? ⟨H, 0, none⟩ = some (.slice (some ⟨bR, oR, none⟩) r cr) ∧ W'.cell? ⟨H, 2, none⟩ = some (.slice (some ⟨bC, oC, none⟩) m cC) ∧ W'.cell? ⟨H, 4, none⟩ = some (.int .u64 p) ∧ W'.cell? ⟨bR, oR + k, none⟩ = some (.int .i64 (i : Int)) ∧ W'.cell? ⟨bC, oC + i, none⟩ = some (.slice au r cu) ∧ W'.cell? ⟨bb, ob + i, none⟩ = some (.int .u64 bi) from by
        have key : ∀ q o v, q < H + 1 → w1.cell? ⟨q, o, none⟩ = some v → W'.cell? ⟨q, o, none⟩ = some v := fun q o v hq hv => (grown_cell hS (by omega) (by omega)).trans ((hx.cells q o (by omega)).trans hv)
        exact ⟨key _ _ _ (by omega) (hA.out.cell 0), key _ _ _ (by omega) (hA.out.cell 2), key _ _ _ (by omega) (hA.out.cell 4), key _ _ _ (by omega) ((X1.out.cells _ _ hbR).trans hcR2), key _ _ _ (by omega) ((X1.out.cells _ _ hbC).trans hcu), key _ _ _ (by omega) ((X1.out.cells _ _ hbb).trans hcb2)⟩)
      obtain ⟨b0, b2, b4, cR, cc, cb⟩ := CF.out wr (grown_refl wr _)
      clear hcR2 hcu hcb2
      go_upto_region 5 with fail
      go_quiet ((go_at_call 46; exact quiet_d (CD.out _ (by repeat (first | exact Ext.refl _ | assumption | refine Ext.drew ?_ | refine Ext.drewN ?_ _ | refine Ext.alloc ?_ _ | refine Ext.trans ?_ (by assumption))))))
      go_upto_region 6 with fail
      refine wp_region_held_drew (S := fun W' => wr.grownBy W' (some (H + 1))) hmx (((by repeat (first | exact Ext.refl _ | assumption | refine Ext.drew ?_ | refine Ext.drewN ?_ _ | refine Ext.alloc ?_ _ | refine Ext.trans ?_ (by assumption))) : Ext wr _).grownBy _) (fun hHeld => ?_)
      refine wpAnyH_take (i := 0) (v := .slice (some ⟨H + 1, 0, none⟩) r r) rfl (by kernel_rfl) (by kernel_rfl) (by kernel_rfl) (fun _ _ _ h => h) (Or.inl ⟨by rfl, ?_⟩) hHeld ?_
      · intro W' hSw
        obtain ⟨b0, b2, b4, cr, cc, cb⟩ := CF.out W' hSw
        go_simp
      refine wpAnyH_take (i := 1) (v := .int .i64 (k : Int)) rfl (by kernel_rfl) (by kernel_rfl) (by kernel_rfl) (fun _ _ _ h => h) (Or.inl ⟨by rfl, ?_⟩) hHeld ?_
      · intro W' hSw
        obtain ⟨b0, b2, b4, cr, cc, cb⟩ := CF.out W' hSw
        go_simp
      refine wpAnyH_take (i := 2) (v := .pointer (some ⟨H, 4, none⟩)) rfl (by kernel_rfl) (by kernel_rfl) (by kernel_rfl) (fun _ _ _ h => h) (Or.inl ⟨by rfl, ?_⟩) hHeld ?_
      · intro W' hSw
        obtain ⟨b0, b2, b4, cr, cc, cb⟩ := CF.out W' hSw
        go_simp
      refine wpAnyH_take (i := 3) (v := .int .u64 p) rfl (by kernel_rfl) (by kernel_rfl) (by kernel_rfl) (fun _ _ _ h => h) (Or.inl ⟨by rfl, ?_⟩) hHeld ?_
      · intro W' hSw
        obtain ⟨b0, b2, b4, cr, cc, cb⟩ := CF.out W' hSw
        go_simp
      refine wpAnyH_take (i := 4) (v := .slice (some ⟨bb, ob, none⟩) m cb') rfl (by kernel_rfl) (by kernel_rfl) (by kernel_rfl) (fun _ _ _ h => h) (Or.inl ⟨by rfl, ?_⟩) hHeld ?_
      · intro W' hSw
        obtain ⟨b0, b2, b4, cr, cc, cb⟩ := CF.out W' hSw
        go_simp
      refine wpAnyH_take (i := 5) (v := .int .i64 (i : Int)) rfl (by kernel_rfl) (by kernel_rfl) (by kernel_rfl) (fun _ _ _ h => h) (Or.inl ⟨by rfl, ?_⟩) hHeld ?_
      · intro W' hSw
        obtain ⟨b0, b2, b4, cr, cc, cb⟩ := CF.out W' hSw
        go_simp
      refine wpAnyH_take (i := 6) (v := .pointer (some ⟨bb, ob + i, none⟩)) rfl (by kernel_rfl) (by kernel_rfl) (by kernel_rfl) (fun _ _ _ h => h) (Or.inl ⟨by rfl, ?_⟩) hHeld ?_
      · intro W' hSw
        obtain ⟨b0, b2, b4, cr, cc, cb⟩ := CF.out W' hSw
        go_simp
      refine wpAnyH_take (i := 7) (v := .int .u64 bi) rfl (by kernel_rfl) (by kernel_rfl) (by kernel_rfl) (fun _ _ _ h => h) (Or.inl ⟨by rfl, ?_⟩) hHeld ?_
      · intro W' hSw
        obtain ⟨b0, b2, b4, cr, cc, cb⟩ := CF.out W' hSw
        go_simp
      refine wpAnyH_take (i := 8) (v := .int .u64 s) rfl (by kernel_rfl) (by kernel_rfl) (by kernel_rfl) (fun _ _ _ h => h) (Or.inl ⟨by rfl, ?_⟩) hHeld ?_
      · intro W' hSw
        obtain ⟨b0, b2, b4, cr, cc, cb⟩ := CF.out W' hSw
        go_simp
      refine held_step 9 (by kernel_rfl) rfl (fun K hK => ?_)
      go_simp
      go_wp2_with fail
      refine (sub_as p bi s x _ hHp.out hbi.1 hbi.2 s0 s1 Ex.out).mono ?_
      rintro _ w7 ⟨rfl, h7⟩
      have x7 : Ext wr w7 := Ext.trans (by repeat (first | exact Ext.refl _ | assumption | refine Ext.drew ?_ | refine Ext.drewN ?_ _ | refine Ext.alloc ?_ _ | refine Ext.trans ?_ (by assumption))) h7
      go_wp2_with fail
      refine hK.out _ _ (x7.grownBy _) (fun hHeld => ?_)
      clear hK K
      refine wpAnyH_take (i := 10) (v := .tuple #[.int .u64 x, .int .i64 0]) rfl (by kernel_rfl) (by kernel_rfl) (by kernel_rfl) (fun _ _ _ h => h) (Or.inl ⟨by rfl, ?_⟩) hHeld ?_
      · intro W' hSw
        obtain ⟨b0, b2, b4, cr, cc, cb⟩ := CF.out W' hSw
        go_simp
      refine wpAnyH_take (i := 11) (v := .int .u64 x) rfl (by kernel_rfl) (by kernel_rfl) (by kernel_rfl) (fun _ _ _ h => h) (Or.inl ⟨by rfl, ?_⟩) hHeld ?_
      · intro W' hSw
        obtain ⟨b0, b2, b4, cr, cc, cb⟩ := CF.out W' hSw
        go_simp
      refine wpAnyH_take (i := 12) (v := .int .i64 0) rfl (by kernel_rfl) (by kernel_rfl) (by kernel_rfl) (fun _ _ _ h => h) (Or.inl ⟨by rfl, ?_⟩) hHeld ?_
      · intro W' hSw
        obtain ⟨b0, b2, b4, cr, cc, cb⟩ := CF.out W' hSw
        go_simp
      refine wpAnyH_take (i := 13) (v := .pointer (some ⟨H + 1, k, none⟩)) rfl (by kernel_rfl) (by kernel_rfl) (by kernel_rfl) (fun _ _ _ h => h) (Or.inl ⟨by rfl, ?_⟩) hHeld ?_
      · intro W' hSw
        obtain ⟨b0, b2, b4, cr, cc, cb⟩ := CF.out W' hSw
        go_simp
      refine held_step 14 (by kernel_rfl) rfl (fun K hK => ?_)
      have hr7 := HL.out.ext x7
      have hr7c := (hr7.2 k (by rw [HF.out.len]; exact hlt)).1
      have hr7f := (hr7.2 k (by rw [HF.out.len]; exact hlt)).2
      rw [Nat.zero_add] at hr7c hr7f
      have hset := hid (hr7.set_ (i := k) (by rw [HF.out.len]; exact hlt) x)
      rw [Nat.zero_add] at hset
      go_simp
      have hfin : wr.grownBy (w7.setCell ⟨H + 1, k, none⟩ (.int .u64 x)) (some (H + 1)) := (x7.grownBy _).trans (setCell_grown _ _ _)
      refine hK.out _ _ hfin (fun hHeld => ?_)
      clear hK K
      refine wpAnyH_done (by kernel_rfl) ?_ _
      clear b0 b2 b4 cR cc cb hr7 hr7c hr7f
      go_wp2_with fail
      go_roundw
      case rel => exact ⟨k + 1, l.set k x, by go_num, by omega, hid (HF.out.step (s := s) (x := x) HP.out HBR.out hlt (by rw [Ei.out, Es.out]) (by rw [Ei.out, Ebi.out, Ex.out])), hset, grown_ext hfin hx (by omega)⟩
      case measure => simp [intOf]; omega
    · obtain rfl : r = k := by omega
      have hLI := hid (HL.out.ints' HF.out.len (Nat.le_refl r) (by omega : r ≤ 9223372036854775807))
      have hA2 := hid (hA.out.ext hx)
      have b2 := hA2.out.cell 2
      go_wp2_with fail
      go_loopw [62] (fun iv wl => ∃ (i : Nat), iv = .int .i64 i ∧ i ≤ m ∧ Hid (∀ t, t < i → (sm r fun j => (C.getD t []).getD j 0 * l.getD j 0) % p = b.getD t 0) ∧ Ext wr wl) (fun iv _ => m - (intOf iv).toNat)
      case atStart => exact ⟨0, rfl, Nat.zero_le _, hid fun t ht => absurd ht (Nat.not_lt_zero _), Ext.refl _⟩
      case round =>
        clear b2
        obtain ⟨i, rfl, hi, HD, hy⟩ := hrel
        rename World => wl
        have hX := hid ((X1.out.trans hx).trans hy)
        by_cases hli : i < m
        · have P := HP.out
          obtain ⟨hiu, b', o', e', -, hcu⟩ := HUF.out i hli
          injection e' with e'
          injection e' with e1 e2
          subst e1; subst e2
          obtain ⟨u, eu⟩ : ∃ u, uf i = u := ⟨_, rfl⟩
          rw [eu] at hiu hcu
          have hcl := P.ok.c _ (getD_mem [] (show i < C.length by rw [P.ok.lc]; exact hli))
          rw [P.ur] at hcl
          have hiuW := hid (hiu.ext hX.out)
          obtain ⟨au, cu, rfl, -, -, -⟩ := hiu
          rw [hcl.1] at hiuW hcu
          have hbi := HBR.out.getD hp2.1 i
          have hcb2 := (hX.out.cells _ _ hbb).trans (Hcb.out i hli)
          obtain ⟨s, es, s0, s1⟩ := name_mod (p := p) (sm r fun t => (C.getD i []).getD t 0 * l.getD t 0) hp2.1
          have hdot : dotZ (C.getD i []) l % p = s := by rw [dv_dotZ hcl.1 HF.out.len]; exact es
          have CD := hid (dotD_as p s _ _ (C.getD i []) l wl hiuW.out (hLI.out.ext hy) (hcl.2.u64 hp2.2) (HF.out.rng.u64 hp2.2) (by rw [hcl.1, HF.out.len]) (hcl.2.has hHp.out) (HF.out.rng.has hHp.out) hdot)
          have Es := hid es
          obtain ⟨bi, ebi⟩ : ∃ bi, b.getD i 0 = bi := ⟨_, rfl⟩
          rw [ebi] at hbi hcb2
          have Ebi := hid ebi
          have b4 := ((hA2.out.ext hy).cell 4)
          replace hcu := (hX.out.cells _ _ hbC).trans hcu
          clear eu es hdot hcl ebi
          by_cases c : s = bi
          · have e0 : (s != bi) = false := by simp [c]
            have Hc := hid c
            clear c
            go_wp2_with (go_at_call 46; refine CD.out.mono ?_; rintro _ w8 ⟨rfl, h8⟩; have x8 := h8.ext; replace hcb2 := (x8.cells _ _ (cell_lt hcb2)).trans hcb2)
            go_roundw
            case rel =>
              refine ⟨i + 1, by go_num, by omega, hid (fun t ht => ?_), hy.trans x8⟩
              by_cases e : t = i
              · rw [e, Es.out, Ebi.out]; exact Hc.out
              · exact HD.out t (by omega)
            case measure => simp [intOf]; omega
          · have e0 : (s != bi) = true := by simp [c]
            have Hc := hid c
            clear c
            go_wp2_with (go_at_call 46; refine CD.out.mono ?_; rintro _ w8 ⟨rfl, h8⟩; have x8 := h8.ext; replace hcb2 := (x8.cells _ _ (cell_lt hcb2)).trans hcb2)
            go_ret2
            exact ⟨l, HF.out, .inl ⟨⟨i, hli, by rw [Es.out, Ebi.out]; exact Hc.out⟩, _, rfl, Ints.nil, hX.out.trans x8⟩⟩
        · obtain rfl : m = i := by omega
          have hA3 := hid (hA2.out.ext hy)
          have b5 := hA3.out.cell 5
          have hG := hid (WRow.made (t := 22) (n := n) (w := wl) (g := wl.heap.size) rfl)
          have hA4 := hid (hA3.out.ext ((Ext.refl wl).alloc (.cells (madeCells #[Value.int .u64 0] n) 22)))
          have q0 := hA4.out.cell 0; have q1 := hA4.out.cell 1; have q2 := hA4.out.cell 2; have q3 := hA4.out.cell 3; have q4 := hA4.out.cell 4; have q5 := hA4.out.cell 5
          have hy1 := hy.size; have hx1 := hx.size; have hL1 := HL.out.1
          have FL := hid (svFill p m n r C U R K HP.out l (List.replicate n 0) HF.out.len HF.out.rng _ _ _ _ (.slice (some ⟨H + 1, 0, none⟩) r r) wl.heap.size n w (wl.alloc (.cells (madeCells #[Value.int .u64 0] n) 22))
            HM.out (hX.out.alloc _) hX.out.size ((hLI.out.ext hy).ext ((Ext.refl wl).alloc _)) (fun k e => by have e : some (H + 1) = some k := e; injection e with e; omega) hG.out (Bck.start List.length_replicate (zeros_rng hp2.1 n) fun t _ => replicate_get n _) (Nat.le_refl n) (by omega))
          unfold apV at FL
          go_wp2_with (go_at_call 149; refine FL.out.mono ?_; rintro _ w9 ⟨rfl, x, hw9, hb9, hg9⟩; have HW9 := hid hw9; have HB9 := hid hb9; have HG9 := hid hg9; clear hw9 hb9 hg9)
          go_ret2
          exact ⟨l, HF.out, .inr ⟨fun t ht => HD.out t ht, x, HB9.out, _, rfl, HW9.out.ints' HB9.out.len (Nat.le_refl n) (by omega), grown_ext HG9.out (hX.out.alloc _) hX.out.size⟩⟩
end Go.Proofs.YthomeenmcajmdaaGreatDoor
namespace Go.Proofs.YthomeenmcajmdaaGreatDoor
open Go.RowKit Go.Maps
theorem made_cells (n : Nat) : (madeCells #[Value.int .u64 0] n) = ((List.replicate n 0).map (Value.int .u64)).toArray := by
  simp [madeCells]
  apply Array.ext
  · simp
  · intro i h1 h2
    simp [Nat.mod_one]
theorem made_get {n i : Nat} (hi : i < n) : (madeCells #[Value.int .u64 0] n)[i]? = some (.int .u64 0) := by rw [made_cells]; simp [hi]
theorem WRow.made1 {w : World} {t : TypeId} {g n i : Nat} (hg : g = w.heap.size) : WRow (w.alloc (.cells ((madeCells #[Value.int .u64 0] n).setIfInBounds i (.int .u64 1)) t)) g 0 ((List.replicate n 0).set i 1) := by
  subst hg
  refine WRow.of_blk (t := t) (rest := []) ?_
  have e : (madeCells #[Value.int .u64 0] n).setIfInBounds i (.int .u64 1) = ((((List.replicate n (0 : Int)).set i 1).map (Value.int .u64)) ++ []).toArray := by
    rw [made_cells, List.append_nil, List.map_set, List.setIfInBounds_toArray]
  rw [← e]
  exact Blk.new w t _
end Go.Proofs.YthomeenmcajmdaaGreatDoor
namespace Go.Proofs.YthomeenmcajmdaaGreatDoor
open Go.RowKit Go.Maps Go.Shelf
attribute [local go_sem] Oper.semAt_some
structure UnS (w W : World) (H m : Nat) (A : Array Value) (y col : List Int) : Prop where
  yrow : WRow W (H + 1) 0 y
  crow : WRow W (H + 1 + 1 + 1) 0 col
  yl : y.length = m
  cl : col.length = m
  box : Blk W H 147 A
  yb : Blk W (H + 1 + 1) 24 #[.slice (some ⟨H + 1, 0, none⟩) m m]
  cb : Blk W (H + 1 + 1 + 1 + 1) 24 #[.slice (some ⟨H + 1 + 1 + 1, 0, none⟩) m m]
  ext : Ext w W
  hw : w.heap.size = H
theorem UnS.ext' {w W W' : World} {H m : Nat} {A : Array Value} {y col : List Int} (h : UnS w W H m A y col) (x : Ext W W') : UnS w W' H m A y col :=
  ⟨h.yrow.ext x, h.crow.ext x, h.yl, h.cl, h.box.ext x, h.yb.ext x, h.cb.ext x, h.ext.trans x, h.hw⟩
theorem UnS.own {w W W' : World} {H m : Nat} {A : Array Value} {y col : List Int} (h : UnS w W H m A y col) {row : Option Nat} (hg : W.grownBy W' row) (hr : ∀ r, row = some r → H + 1 + 1 + 1 + 1 < r) : UnS w W' H m A y col := by
  have ne : ∀ q, q ≤ H + 1 + 1 + 1 + 1 → row ≠ some q := fun q hq e => by have := hr q e; omega
  exact ⟨h.yrow.grown hg (ne _ (by omega)), h.crow.grown hg (ne _ (by omega)), h.yl, h.cl, h.box.grown hg (ne _ (by omega)), h.yb.grown hg (ne _ (by omega)), h.cb.grown hg (ne _ (by omega)), h.ext.grown hg (fun k e => by have := hr k e; have := h.hw; omega), h.hw⟩
end Go.Proofs.YthomeenmcajmdaaGreatDoor
namespace Go.Proofs.YthomeenmcajmdaaGreatDoor
open Go.RowKit Go.Maps
theorem vecB_ok {p : Int} {m : Nat} {b : List Int} (hp : rightB p = true) (hb : b.length = m) (hr : Rng p b) : vecB p m b = true := by
  unfold vecB
  rw [decide_eq_true (by rw [hb]), hr.has hp]; rfl
def SolQ (p : Int) (m n : Nat) (xs b : List Int) (code : Int) (l : List Int) : Prop := (code = 0 ∧ IsX p m n xs b l) ∨ (code = 6 ∧ l = [] ∧ ¬ ∃ x, IsX p m n xs b x)
set_option maxHeartbeats 1000000 in
theorem svSolve (p : Int) (m n : Nat) (v u : Value) (xs b : List Int) (w : World) (ok : MatOk p m n xs) (hf : Fld p) (hv : Ints .u64 w v xs) (hu : Ints .u64 w u b) (hb : b.length = m) (hr : Rng p b) :
    Calls Tryz.prog 91 #[.int .u64 p, matV m n v, u] w fun e w' => ∃ code l, SolQ p m n xs b code l ∧ RetE code l w e w' := by
  have hp2 := rightB_true ok.hp
  have C1 := hid fun (W : World) (hW : Ext w W) => svBeside p m n v u xs b W (by omega) (by omega) (hv.ext hW) (hu.ext hW) (hr.u64 hp2.2)
  rw [vecB_ok ok.hp hb hr] at C1
  have C2 := hid fun (W : World) (hW : Ext w W) => svTake p m n v xs W ok hf (hv.ext hW)
  have P := take_pt ok hf
  have C3 := hid fun (W : World) (rv kv Cv Uv : Value) (hM : PtM W ((takeL p m n xs).C.map (padL (takeL p m n xs).U.length)) (takeL p m n xs).U (takeL p m n xs).rows (takeL p m n xs).cols rv kv Cv Uv) (hu : Ints .u64 W u b) =>
    (svSolveA p m n _ _ _ _ _ P b hb hr rv kv Cv Uv u W hM hu).mono fun e w' h => (show ∃ code l, SolQ p m n xs b code l ∧ RetE code l W e w' from by
      obtain ⟨made, hF, ⟨⟨i, hi, hne⟩, h6⟩ | ⟨hall, x, hB, h0⟩⟩ := h
      · exact ⟨6, [], .inr ⟨rfl, rfl, isX_not ok hf hF hi hne⟩, h6⟩
      · exact ⟨0, x, .inl ⟨rfl, isX_of ok hf hb hr hall hB⟩, h0⟩)
  have ur := P.ur; have rr := P.rr; have kr := P.kr; have lC := P.ok.lc
  obtain ⟨CC, eC⟩ : ∃ CC, (takeL p m n xs).C.map (padL (takeL p m n xs).U.length) = CC := ⟨_, rfl⟩
  rw [eC] at C2 C3
  obtain ⟨UU, eU⟩ : ∃ UU, (takeL p m n xs).U = UU := ⟨_, rfl⟩
  rw [eU] at C2 C3
  obtain ⟨RR, eR⟩ : ∃ RR, (takeL p m n xs).rows = RR := ⟨_, rfl⟩
  rw [eR] at C2 C3
  obtain ⟨KK, eK⟩ : ∃ KK, (takeL p m n xs).cols = KK := ⟨_, rfl⟩
  rw [eK] at C2 C3
  have HU := hid hu
  obtain ⟨a, cap, rfl, k1, k2, k3⟩ := hv
  obtain ⟨a', cap', rfl, k1', k2', k3'⟩ := hu
  have hA := hid (Blk.new w 26 #[.int .i64 (m : Int), .int .i64 (n : Int), .slice a xs.length cap])
  obtain ⟨b0, b1, b2⟩ := hA.out.at3
  unfold matV at C1 C2
  unfold matV
  unfold apV at C3
  clear k3 k3' ok hf hr hb P ur rr kr lC eC eU eR eK
  go_enter Tryz.func91, Tryz.ntmps91
  go_wp2_with (first
    | (go_at_call 118; refine (C1.out _ (by repeat (first | exact Ext.refl _ | assumption | refine Ext.drew ?_ | refine Ext.drewN ?_ _ | refine Ext.alloc ?_ _ | refine Ext.trans ?_ (by assumption)))).mono ?_; rintro _ w1 ⟨rfl, x1⟩; have HA1 := hid (hA.out.ext x1); obtain ⟨d0, d1, d2⟩ := HA1.out.at3)
    | (go_at_call 119; refine (C2.out _ (by repeat (first | exact Ext.refl _ | assumption | refine Ext.drew ?_ | refine Ext.drewN ?_ _ | refine Ext.alloc ?_ _ | refine Ext.trans ?_ (by assumption)))).mono ?_; rintro _ w2 ⟨rv, kv, Cv, Uv, rfl, hM, x2⟩
       have HM := hid hM
       obtain ⟨h1, h2, h3, h4⟩ := hM
       unfold apV
       obtain ⟨ar, cr, rfl, -, -, -⟩ := h1
       obtain ⟨ac, cc, rfl, -, -, -⟩ := h2
       obtain ⟨aC, cC, rfl, -, -, -⟩ := h3
       obtain ⟨aU, cU, rfl, -, -, -⟩ := h4)
    | (go_at_call 120; refine (C3.out _ _ _ _ _ (HM.out.ext ((Ext.refl w2).alloc _)) (HU.out.ext (by repeat (first | exact Ext.refl _ | assumption | refine Ext.drew ?_ | refine Ext.drewN ?_ _ | refine Ext.alloc ?_ _ | refine Ext.trans ?_ (by assumption))))).mono ?_; rintro _ w3 ⟨code, l, hq, rv, rfl, hi, x3⟩
       have HQ := hid hq; have HI := hid hi
       obtain ⟨av, cv, rfl, -, -, -⟩ := hi
       clear hq))
  go_ret2
  exact ⟨code, l, HQ.out, _, rfl, HI.out, (by repeat (first | exact Ext.refl _ | assumption | refine Ext.drew ?_ | refine Ext.drewN ?_ _ | refine Ext.alloc ?_ _ | refine Ext.trans ?_ (by assumption)))⟩
theorem svSolve_yes (p : Int) (m n : Nat) (v u : Value) (xs b x : List Int) (w : World) (ok : MatOk p m n xs) (hf : Fld p) (hv : Ints .u64 w v xs) (hu : Ints .u64 w u b) (hb : b.length = m) (hr : Rng p b) (h : IsX p m n xs b x) : Calls Tryz.prog 91 #[.int .u64 p, matV m n v, u] w (RetE 0 x w) :=
  (svSolve p m n v u xs b w ok hf hv hu hb hr).mono fun e w' ⟨code, l, hq, he⟩ => by
    rcases hq with ⟨rfl, hx⟩ | ⟨_, _, hn⟩
    · rwa [h.one ok hf hx]
    · exact absurd ⟨x, h⟩ hn
end Go.Proofs.YthomeenmcajmdaaGreatDoor
namespace Go.Proofs.YthomeenmcajmdaaGreatDoor
open Go.RowKit Go.Maps
theorem offE_nil {k : Nat} {K : List Nat} (h : ∀ j, j < k → j ∈ K) : offE k K = [] := by
  unfold offE
  rw [List.filter_eq_nil_iff]
  intro j hj
  have := h j (List.mem_range.1 hj)
  simp [this]
theorem offE_cons {f : Nat} {K : List Nat} (hf : f ∉ K) (h : ∀ j, j < f → j ∈ K) : ∀ k, f < k → ∃ t, offE k K = f :: t
  | 0, hk => absurd hk (Nat.not_lt_zero _)
  | k + 1, hk => by
    rcases Nat.lt_or_ge f k with c | c
    · obtain ⟨t, e⟩ := offE_cons hf h k c
      by_cases hm : k ∈ K
      · exact ⟨t, by rw [offE_yes hm, e]⟩
      · exact ⟨t ++ [k], by rw [offE_no hm, e]; rfl⟩
    · obtain rfl : f = k := by omega
      exact ⟨[], by rw [offE_no hf, offE_nil h]; rfl⟩
set_option maxHeartbeats 1000000 in
theorem svKernel_no (p : Int) (m n : Nat) (v : Value) (xs : List Int) (w : World) (ok : MatOk p m n xs) (hf : Fld p) (hv : Ints .u64 w v xs) (hr : ¬ (takeL p m n xs).U.length < n) : Calls Tryz.prog 142 #[.int .u64 p, matV m n v] w (RetE 6 [] w) := by
  have hn := ok.hn
  have C2 := hid fun (W : World) (hW : Ext w W) => svTake p m n v xs W ok hf (hv.ext hW)
  have P := take_pt ok hf
  have rr := P.rr; have kr := P.kr; have ur := P.ur; have lC := P.ok.lc; have hr64 := P.ok.hu
  have C3 := hid fun (W : World) (rv : Value) (hM : Ints .i64 W rv (zL (takeL p m n xs).cols)) => svOthers rv (takeL p m n xs).cols n W hM (by omega) (by omega)
  have htk := takeL_ok (m := m) (n := n) (rightB_true ok.hp).1 hf ok.hx
  have hfc := freeC_lt (n := n) htk.cols_nodup fun c hc => htk.cols_lt hc
  rw [htk.lk] at hfc
  have hge : n ≤ freeC n (takeL p m n xs).cols := Nat.le_of_not_lt fun hlt => hr (hfc.1 hlt)
  rw [offE_nil (fun j hj => freeC_low (n := n) (by omega))] at C3
  obtain ⟨CC, eC⟩ : ∃ CC, (takeL p m n xs).C.map (padL (takeL p m n xs).U.length) = CC := ⟨_, rfl⟩
  rw [eC] at C2
  obtain ⟨UU, eU⟩ : ∃ UU, (takeL p m n xs).U = UU := ⟨_, rfl⟩
  rw [eU] at C2
  obtain ⟨RR, eR⟩ : ∃ RR, (takeL p m n xs).rows = RR := ⟨_, rfl⟩
  rw [eR] at C2
  obtain ⟨KK, eK⟩ : ∃ KK, (takeL p m n xs).cols = KK := ⟨_, rfl⟩
  rw [eK] at C2 C3
  obtain ⟨a, cap, rfl, k1, k2, k3⟩ := hv
  have hA := hid (Blk.new w 26 #[.int .i64 (m : Int), .int .i64 (n : Int), .slice a xs.length cap])
  obtain ⟨b0, b1, b2⟩ := hA.out.at3
  unfold matV at C2
  unfold matV
  clear k3 ok hf P rr kr ur lC eC eU eR eK hr htk hfc hge
  go_enter Tryz.func142, Tryz.ntmps142
  go_wp2_with (first
    | (go_at_call 119; refine (C2.out _ (by repeat (first | exact Ext.refl _ | assumption | refine Ext.drew ?_ | refine Ext.drewN ?_ _ | refine Ext.alloc ?_ _ | refine Ext.trans ?_ (by assumption)))).mono ?_; rintro _ w2 ⟨rv, kv, Cv, Uv, rfl, hM, x2⟩
       have HM := hid hM
       obtain ⟨h1, h2, h3, h4⟩ := hM
       unfold apV
       obtain ⟨ar, cr, rfl, -, -, -⟩ := h1
       obtain ⟨ac, cc, rfl, -, -, -⟩ := h2
       obtain ⟨aC, cC, rfl, -, -, -⟩ := h3
       obtain ⟨aU, cU, rfl, -, -, -⟩ := h4
       have HA2 := hid ((hA.out.ext x2).ext ((Ext.refl w2).alloc (.cells #[.slice ar (zL RR).length cr, .slice ac (zL KK).length cc, .slice aC CC.length cC, .slice aU UU.length cU, .int .u64 p, .int .i64 (n : Int)] 147)))
       obtain ⟨d0, d1, d2⟩ := HA2.out.at3)
    | (go_at_call 159; refine (C3.out _ _ (HM.out.cols.ext ((Ext.refl w2).alloc _))).mono ?_; rintro _ w3 ⟨fv, rfl, hi3, x3⟩
       obtain ⟨af, cf, rfl, -, -, -⟩ := hi3))
  go_ret2
  exact ⟨_, rfl, Ints.nil, (by repeat (first | exact Ext.refl _ | assumption | refine Ext.drew ?_ | refine Ext.drewN ?_ _ | refine Ext.alloc ?_ _ | refine Ext.trans ?_ (by assumption)))⟩
set_option maxRecDepth 100000 in
set_option maxHeartbeats 1000000 in
theorem svKernel_yes (p : Int) (m n : Nat) (v : Value) (xs x : List Int) (w : World) (ok : MatOk p m n xs) (hf : Fld p) (hv : Ints .u64 w v xs) (h : IsK p m n xs x) (hr : (takeL p m n xs).U.length < n) : Calls Tryz.prog 142 #[.int .u64 p, matV m n v] w (RetE 0 x w) := by
  have hn := ok.hn
  have hp2 := rightB_true ok.hp
  have C2 := hid fun (W : World) (hW : Ext w W) => svTake p m n v xs W ok hf (hv.ext hW)
  have P := take_pt ok hf
  have rr := P.rr; have kr := P.kr; have ur := P.ur; have lC := P.ok.lc; have hr64 := P.ok.hu
  have C3 := hid fun (W : World) (rv : Value) (hM : Ints .i64 W rv (zL (takeL p m n xs).cols)) => svOthers rv (takeL p m n xs).cols n W hM (by omega) (by omega)
  have htk := takeL_ok (m := m) (n := n) (rightB_true ok.hp).1 hf ok.hx
  have hfc := freeC_lt (n := n) htk.cols_nodup fun c hc => htk.cols_lt hc
  rw [htk.lk] at hfc
  have hfn := hfc.2 hr
  obtain ⟨tl, etl⟩ := offE_cons (freeC_not hfn) (fun j hj => freeC_low (n := n) hj) n hfn
  rw [etl] at C3
  have C4 := hid fun (W0 W : World) (rv kv Cv Uv mv : Value) (g cap : Nat) (hM : PtM W0 ((takeL p m n xs).C.map (padL (takeL p m n xs).U.length)) (takeL p m n xs).U (takeL p m n xs).rows (takeL p m n xs).cols rv kv Cv Uv) (hw0 : Ext W0 W) (hg0 : W0.heap.size ≤ g)
      (hmv : Ints .u64 W mv (List.replicate (takeL p m n xs).U.length 0)) (hmg : ∀ k, mv.ownBlock = some k → k ≠ g) (hx : WRow W g 0 ((List.replicate n 0).set (freeC n (takeL p m n xs).cols) 1)) (hc1 : n ≤ cap) (hc2 : cap ≤ 9223372036854775807) =>
    (svFill p m n _ _ _ _ _ P (List.replicate (takeL p m n xs).U.length 0) ((List.replicate n 0).set (freeC n (takeL p m n xs).cols) 1) List.length_replicate (zeros_rng hp2.1 _) rv kv Cv Uv mv g cap W0 W hM hw0 hg0 hmv hmg hx
      (Bck.start (by rw [List.length_set, List.length_replicate]) ((zeros_rng hp2.1 n).set'' _ (by omega) (by omega)) fun t ht => by
        rw [unit_get hfn, if_neg]
        intro e
        refine freeC_not hfn ?_
        rw [e, List.getD, List.getElem?_eq_getElem (by rw [kr]; exact ht)]
        exact List.getElem_mem _) hc1 hc2).mono fun e w' hh => (show e = .returned (.tuple #[]) ∧ WRow w' g 0 x ∧ W.grownBy w' (some g) from by
      obtain ⟨rfl, l, h1, h2, h3⟩ := hh
      have := h.one ok hf (isK_of ok hf hfn h2)
      subst this
      exact ⟨rfl, h1, h3⟩)
  have hxl := h.len
  obtain ⟨CC, eC⟩ : ∃ CC, (takeL p m n xs).C.map (padL (takeL p m n xs).U.length) = CC := ⟨_, rfl⟩
  rw [eC] at C2 C4
  obtain ⟨UU, eU⟩ : ∃ UU, (takeL p m n xs).U = UU := ⟨_, rfl⟩
  rw [eU] at C2 C4
  obtain ⟨RR, eR⟩ : ∃ RR, (takeL p m n xs).rows = RR := ⟨_, rfl⟩
  rw [eR] at C2 C4
  obtain ⟨KK, eK⟩ : ∃ KK, (takeL p m n xs).cols = KK := ⟨_, rfl⟩
  rw [eK] at C2 C3 C4
  obtain ⟨a, cap, rfl, k1, k2, k3⟩ := hv
  have hA := hid (Blk.new w 26 #[.int .i64 (m : Int), .int .i64 (n : Int), .slice a xs.length cap])
  obtain ⟨b0, b1, b2⟩ := hA.out.at3
  unfold matV at C2
  unfold matV
  unfold apV at C4
  obtain ⟨f, ef⟩ : ∃ f, freeC n KK = f := ⟨_, rfl⟩
  rw [eK, ef] at hfn
  rw [ef] at C3 C4
  have hz : zL (f :: tl) = (f : Int) :: zL tl := rfl
  have hzl := hid (zL_len tl)
  rw [hz] at C3
  obtain ⟨tz, etz⟩ : ∃ tz, zL tl = tz := ⟨_, rfl⟩
  rw [etz] at C3 hzl
  have hlen : tz.length ≤ 64 := by
    rw [hzl.out]
    have h1 := offE_le (takeL p m n xs).cols n
    rw [etl, List.length_cons] at h1
    omega
  rw [eU] at hr64 hr
  have hmk := make_ints (P := Tryz.prog) 24 22 .u64 8 (by omega) (by kernel_rfl) (by kernel_rfl) n n (Nat.le_refl _) (by omega)
  have hmk2 := make_ints (P := Tryz.prog) 24 22 .u64 8 (by omega) (by kernel_rfl) (by kernel_rfl) UU.length UU.length (Nat.le_refl _) (by omega)
  have g0m := made_get hfn
  have hmx : Tryz.prog.follows .mixedOrders = true := by kernel_rfl
  have HXL := hid hxl
  clear k3 ok hf P rr kr ur lC eC eU eR eK h htk hfc etl hz etz hzl ef hxl
  go_enter Tryz.func142, Tryz.ntmps142
  go_upto_region 9 with (first
    | (go_at_call 119; refine (C2.out _ (by repeat (first | exact Ext.refl _ | assumption | refine Ext.drew ?_ | refine Ext.drewN ?_ _ | refine Ext.alloc ?_ _ | refine Ext.trans ?_ (by assumption)))).mono ?_; rintro _ w2 ⟨rv, kv, Cv, Uv, rfl, hM, x2⟩
       have HM := hid hM
       obtain ⟨h1, h2, h3, h4⟩ := hM
       unfold apV
       obtain ⟨ar, cr, rfl, -, -, -⟩ := h1
       obtain ⟨ac, cc, rfl, -, -, -⟩ := h2
       obtain ⟨aC, cC, rfl, -, -, -⟩ := h3
       obtain ⟨aU, cU, rfl, -, -, -⟩ := h4
       have HA2 := hid ((hA.out.ext x2).ext ((Ext.refl w2).alloc (.cells #[.slice ar (zL RR).length cr, .slice ac (zL KK).length cc, .slice aC CC.length cC, .slice aU UU.length cU, .int .u64 p, .int .i64 (n : Int)] 147)))
       obtain ⟨d0, d1, d2⟩ := HA2.out.at3)
    | (go_at_call 159; refine (C3.out _ _ (HM.out.cols.ext ((Ext.refl w2).alloc _))).mono ?_; rintro _ w3 ⟨fv, rfl, hi3, x3⟩
       obtain ⟨af, cf, rfl, f1, f2, f3⟩ := hi3
       obtain ⟨bf, off, rfl, hbf, hcf⟩ := f3 (by simp)
       have g0 := hcf 0 (by simp)
       rw [Nat.add_zero] at g0
       have g0' : w3.cell? ⟨bf, off, none⟩ = some (.int .i64 (f : Int)) := g0
       have g1' : (w3.alloc (.cells (madeCells #[Value.int .u64 0] n) 22)).cell? ⟨bf, off, none⟩ = some (.int .i64 (f : Int)) := (((Ext.refl w3).alloc _).cells _ _ hbf).trans g0'
       rw [List.length_cons] at f1
       have tlen : (((tz.length : Int) + 1) == 0) = false := by simp; omega
       have HB := hid ((Blk.new w2 147 #[.slice ar (zL RR).length cr, .slice ac (zL KK).length cc, .slice aC CC.length cC, .slice aU UU.length cU, .int .u64 p, .int .i64 (n : Int)]).ext x3)
       have HA3 := hid (HA2.out.ext x3)
       obtain ⟨a0, a1, a2⟩ := HA3.out.at3
       clear g0 hcf f3))
  obtain ⟨w4, hw4⟩ : ∃ w4, w3.alloc (.cells ((madeCells #[Value.int .u64 0] n).setIfInBounds f (.int .u64 1)) 22) = w4 := ⟨_, rfl⟩
  have x4 : Ext w3 w4 := hw4 ▸ (Ext.refl w3).alloc _
  have hs4 : w4.heap.size = w3.heap.size + 1 := by rw [← hw4]; simp
  have hrow := hid (show WRow w4 w3.heap.size 0 ((List.replicate n 0).set f 1) from hw4 ▸ WRow.made1 rfl)
  rw [hw4]
  have CF := hid fun (W' : World) (hS : w4.grownBy W' (some w3.heap.size)) => (show (W'.cell? ⟨w2.heap.size, 0, none⟩ = some (.slice ar (zL RR).length cr) ∧ W'.cell? ⟨w2.heap.size, 1, none⟩ = some (.slice ac (zL KK).length cc) ∧ W'.cell? ⟨w2.heap.size, 2, none⟩ = some (.slice aC CC.length cC) ∧ W'.cell? ⟨w2.heap.size, 3, none⟩ = some (.slice aU UU.length cU) ∧
    W'.cell? ⟨w2.heap.size, 4, none⟩ = some (.int .u64 p) ∧ W'.cell? ⟨w2.heap.size, 5, none⟩ = some (.int .i64 (n : Int))) from by
    have hlt : w2.heap.size < w3.heap.size := by have h := x3.size; simp at h; omega
    have hb := (HB.out.ext x4).grown hS (fun e => by injection e with e; omega)
    exact ⟨hb.cell 0, hb.cell 1, hb.cell 2, hb.cell 3, hb.cell 4, hb.cell 5⟩)
  clear g0' g1' hw4 a0 a1 a2 d0 d1 d2 b0 b1 b2
  refine wp_region_held_drew (S := fun W' => w4.grownBy W' (some w3.heap.size)) hmx ((Ext.refl w4).drew.grownBy _) (fun hHeld => ?_)
  refine wpAnyH_take (i := 0) (v := .agg #[.slice ar (zL RR).length cr, .slice ac (zL KK).length cc, .slice aC CC.length cC, .slice aU UU.length cU, .int .u64 p, .int .i64 (n : Int)]) rfl (by kernel_rfl) (by kernel_rfl) (by kernel_rfl) (fun _ _ _ h => h) (Or.inl ⟨by rfl, ?_⟩) hHeld ?_
  · intro W' hSw
    obtain ⟨q0, q1, q2, q3, q4, q5⟩ := CF.out W' hSw
    go_simp
  refine wpAnyH_take (i := 1) (v := .slice (some ⟨w3.heap.size, 0, none⟩) n n) rfl (by kernel_rfl) (by kernel_rfl) (by kernel_rfl) (fun _ _ _ h => h) (Or.inl ⟨by rfl, ?_⟩) hHeld ?_
  · intro W' hSw
    obtain ⟨q0, q1, q2, q3, q4, q5⟩ := CF.out W' hSw
    go_simp
  refine wpAnyH_take (i := 2) (v := .pointer (some ⟨w2.heap.size, 0, none⟩)) rfl (by kernel_rfl) (by kernel_rfl) (by kernel_rfl) (fun _ _ _ h => h) (Or.inl ⟨by rfl, ?_⟩) hHeld ?_
  · intro W' hSw
    obtain ⟨q0, q1, q2, q3, q4, q5⟩ := CF.out W' hSw
    go_simp
  refine wpAnyH_take (i := 3) (v := .pointer (some ⟨w2.heap.size, 3, none⟩)) rfl (by kernel_rfl) (by kernel_rfl) (by kernel_rfl) (fun _ _ _ h => h) (Or.inl ⟨by rfl, ?_⟩) hHeld ?_
  · intro W' hSw
    obtain ⟨q0, q1, q2, q3, q4, q5⟩ := CF.out W' hSw
    go_simp
  refine wpAnyH_take (i := 4) (v := .slice aU UU.length cU) rfl (by kernel_rfl) (by kernel_rfl) (by kernel_rfl) (fun _ _ _ h => h) (Or.inl ⟨by rfl, ?_⟩) hHeld ?_
  · intro W' hSw
    obtain ⟨q0, q1, q2, q3, q4, q5⟩ := CF.out W' hSw
    go_simp
  refine wpAnyH_take (i := 5) (v := .int .i64 (UU.length : Int)) rfl (by kernel_rfl) (by kernel_rfl) (by kernel_rfl) (fun _ _ _ h => h) (Or.inl ⟨by rfl, ?_⟩) hHeld ?_
  · intro W' hSw
    obtain ⟨q0, q1, q2, q3, q4, q5⟩ := CF.out W' hSw
    go_simp
  refine held_step 6 (by kernel_rfl) rfl (fun K hK => ?_)
  go_simp
  refine hK.out _ _ (((Ext.refl w4).drew.alloc _).grownBy _) (fun hHeld => ?_)
  clear hK K
  refine held_step 7 (by kernel_rfl) rfl (fun K hK => ?_)
  go_simp
  go_wp2_with fail
  have xw : Ext w4 (w4.alloc (.cells (madeCells #[Value.int .u64 0] UU.length) 22)).drew := ((Ext.refl w4).alloc _).drew
  have hmv : Ints .u64 (w4.alloc (.cells (madeCells #[Value.int .u64 0] UU.length) 22)).drew (.slice (some ⟨w3.heap.size + 1, 0, none⟩) UU.length UU.length) (List.replicate UU.length 0) := ((WRow.made (t := 22) (n := UU.length) (w := w4) (g := w3.heap.size + 1) hs4.symm).ext (Ext.refl _).drew).ints' List.length_replicate (Nat.le_refl _) (by omega)
  have hx3 : Ext w2 w3 := Ext.trans ((Ext.refl w2).alloc _) x3
  refine (C4.out w2 _ _ _ _ _ _ w3.heap.size n HM.out ((hx3.trans x4).trans xw) hx3.size hmv (fun k e => by have e : some (w3.heap.size + 1) = some k := e; injection e with e; omega) (hrow.out.ext xw) (Nat.le_refl n) (by omega)).mono ?_
  rintro _ w6 ⟨rfl, h6, g6⟩
  have x6 : Ext w3 w6 := grown_ext g6 (x4.trans xw) (Nat.le_refl _)
  have H6 := hid h6
  go_wp2_with fail
  refine hK.out _ _ ((xw.grownBy _).trans g6) (fun hHeld => ?_)
  clear hK K CF
  refine wpAnyH_done (by kernel_rfl) ?_ _
  go_wp2_with fail
  go_ret2
  exact ⟨_, rfl, H6.out.ints' HXL.out (Nat.le_refl n) (by omega), (by repeat (first | exact Ext.refl _ | assumption | refine Ext.drew ?_ | refine Ext.drewN ?_ _ | refine Ext.alloc ?_ _ | refine Ext.trans ?_ (by assumption)))⟩
end Go.Proofs.YthomeenmcajmdaaGreatDoor
namespace Go.Proofs.YthomeenmcajmdaaGreatDoor
open Go.RowKit Go.Maps
def AgOf (p : Int) (m n : Nat) (xs b : List Int) (y : List Int) : Prop := ∃ i, i < m ∧ i ∉ (takeL p m n xs).rows ∧ IsY p m n xs i y ∧ dotF m (atV y) (atV b) % p ≠ 0 ∧ ∀ k z, k < i → k ∉ (takeL p m n xs).rows → IsY p m n xs k z → dotF m (atV z) (atV b) % p = 0
theorem AgOf.one {p : Int} {m n : Nat} {xs b x y : List Int} (ok : MatOk p m n xs) (hf : Fld p) (hx : AgOf p m n xs b x) (hy : AgOf p m n xs b y) : x = y := by
  obtain ⟨i, h1, h2, h3, h4, h5⟩ := hx
  obtain ⟨j, g1, g2, g3, g4, g5⟩ := hy
  rcases Nat.lt_trichotomy i j with c | c | c
  · exact absurd (g5 i x c h2 h3) h4
  · subst c; exact h3.one ok hf g3
  · exact absurd (h5 j y c g2 g3) g4
end Go.Proofs.YthomeenmcajmdaaGreatDoor
