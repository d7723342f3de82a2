/- Package krylov: Do. -/
import Derived.Test.YtijpeepdedfhoaaGreatBun19
import Derived.Test.YtijpeepdedfhoaaGreatBun23
import Derived.Test.YtijpeepdedfhoaaGreatBun15
import Derived.Test.YtijpeepdedfhoaaGreatBun27
import Derived.Test.YtijpeepdedfhoaaGreatBun04
import Derived.Test.YtijpeepdedfhoaaGreatBun05
import Derived.Test.YtijpeepdedfhoaaGreatBun21
import Derived.RangeFuncLeaves
namespace Go.Proofs.YtijpeepdedfhoaaGreat
open Go.RowKit Go.Maps Go.Shelf

attribute [local go_sem] Oper.semAt_some

/-- one number more, from the greatest power down -/
def stepD (p : Int) (n : Nat) (xs v : List Int) (s : List Int) (c : Int) : List Int := tab n fun i => ((timesL p n n xs s).getD i 0 + c * v.getD i 0 % p) % p
def foldD (p : Int) (n : Nat) (xs v : List Int) (l : List Int) : List Int := l.foldl (stepD p n xs v) (List.replicate n 0)
theorem foldD_snoc (p : Int) (n : Nat) (xs v l : List Int) (c : Int) : foldD p n xs v (l ++ [c]) = stepD p n xs v (foldD p n xs v l) c := by simp [foldD]
theorem foldD_len (p : Int) (n : Nat) (xs v l : List Int) : (foldD p n xs v l).length = n := by
  rcases List.eq_nil_or_concat l with rfl | ⟨l', c, rfl⟩
  · exact List.length_replicate
  · rw [List.concat_eq_append, foldD_snoc]; exact tab_len _ _
theorem foldD_rng {p : Int} (hp : 2 ≤ p) (n : Nat) (xs v l : List Int) : Rng p (foldD p n xs v l) := by
  rcases List.eq_nil_or_concat l with rfl | ⟨l', c, rfl⟩
  · exact zeros_rng hp n
  · rw [List.concat_eq_append, foldD_snoc]; exact tab_rng fun _ _ => mod_range _ hp
theorem foldD_from {p : Int} {n : Nat} {xs v f : List Int} : ∀ k, k ≤ f.length → foldD p n xs v (f.reverse.take k) = fromL p n xs f v (f.length - k)
  | 0, _ => by rw [Nat.sub_zero, fromL_end]; rfl
  | k + 1, h => by
    have e : f.reverse.take (k + 1) = f.reverse.take k ++ [f.getD (f.length - 1 - k) 0] := by
      rw [List.take_succ_eq_append_getElem (by simp; omega)]
      rw [List.getElem_reverse]
      simp [List.getD, show f.length - 1 - k < f.length by omega]
    rw [e, foldD_snoc, foldD_from k (by omega)]
    refine list_ext (by rw [fromL_len]; exact tab_len _ _) fun i hi => ?_
    have hi' : i < n := by unfold stepD at hi; rwa [tab_len] at hi
    rw [show f.length - (k + 1) = f.length - 1 - k by omega, fromL_step (by omega) hi', show f.length - 1 - k + 1 = f.length - k by omega]
    exact tab_get _ hi'
theorem foldD_all {p : Int} {n : Nat} {xs v f : List Int} : foldD p n xs v f.reverse = pdoL p n xs f v := by
  have h := foldD_from (p := p) (n := n) (xs := xs) (v := v) (f := f) f.length (Nat.le_refl _)
  rw [Nat.sub_self, fromL_zero, List.take_of_length_le (by simp)] at h
  exact h

set_option maxRecDepth 100000 in
set_option maxHeartbeats 1000000 in
theorem krDo_no (p r c : Int) (vf v u : Value) (f xs b : List Int) (w : World) (h0 : 0 ≤ p) (h1 : p ≤ 18446744073709551615) (hfv : Ints .u64 w vf f) (hfx : U64s f) (hv : Ints .u64 w v xs) (hx : U64s xs) (hu : Ints .u64 w u b) (hb : U64s b) (h : (rightPB p f && besideB p r c xs b) = false) :
    Calls Tryz.prog 42 #[.int .u64 p, vf, matV r c v, u] w (Ret (.tuple #[.slice none 0 0, .int .i64 1]) w) := by
  have C1 := hid fun (W : World) (hW : Ext w W) => polRight_any p vf f W h0 h1 (hfv.ext hW) hfx
  have C2 := hid fun (W : World) (hW : Ext w W) => krBeside p r c v u xs b W h0 h1 (hv.ext hW) hx (hu.ext hW) hb
  obtain ⟨a, cap, rfl, k1, k2, k3⟩ := hv
  obtain ⟨a', cap', rfl, k1', k2', k3'⟩ := hu
  clear k3 k3' hx hb hfx hfv
  unfold matV at C2
  unfold matV
  have hb3 := hid (boxesA3 w 22 25 23 #[.int .u64 p] #[.int .i64 r, .int .i64 c, .slice a xs.length cap] #[.slice a' b.length cap'])
  have c0 := (hb3.out.1.cell 0); have c1 := hb3.out.2.1.cell 0; have c2 := hb3.out.2.1.cell 1; have c3 := hb3.out.2.1.cell 2; have c4 := hb3.out.2.2.1.cell 0
  obtain ⟨P, hP⟩ : ∃ P, rightPB p f = P := ⟨_, rfl⟩
  rw [hP] at C1 h
  obtain ⟨B, hB⟩ : ∃ B, besideB p r c xs b = B := ⟨_, rfl⟩
  rw [hB] at C2 h
  clear hP hB
  cases P with
  | false =>
    clear h
    go_enter Tryz.func42, Tryz.ntmps42
    go_wp2_with (go_at_call 46; refine (C1.out _ hb3.out.2.2.2).mono ?_; rintro _ _ ⟨rfl, rfl⟩)
    go_ret2
    exact ⟨rfl, hb3.out.2.2.2⟩
  | true =>
    rw [Bool.true_and] at h
    subst h
    go_enter Tryz.func42, Tryz.ntmps42
    go_wp2_with (first
      | (go_at_call 46; refine (C1.out _ hb3.out.2.2.2).mono ?_; rintro _ _ ⟨rfl, rfl⟩)
      | (go_at_call 81; refine (C2.out _ hb3.out.2.2.2).mono ?_; rintro _ w1 ⟨rfl, x1⟩))
    go_ret2
    exact ⟨rfl, hb3.out.2.2.2.trans x1⟩

/-- the call's own memory: the sum so far, and its box -/
def DoS (w1 W : World) (T n : Nat) (s : List Int) : Prop := ∃ g, Blk W (T + 1) 23 #[.slice (some ⟨g, 0, none⟩) n n] ∧ WRow W g 0 s ∧ g ≠ T + 1 ∧ g ≠ T + 1 + 1 ∧ T ≤ g ∧ Ext w1 W ∧ T + 1 + 1 + 1 ≤ W.heap.size
theorem cells_ne {w : World} {g : Nat} {t : TypeId} {cs : Array Value} (h : w.heap[g]? = some (.cells cs t (0, 0))) {row : Option Nat} (hr : ∀ r, row = some r → ∃ o : Obj, w.heap[r]? = some o ∧ o.isCells = false) : row ≠ some g := fun e => by
  obtain ⟨o, ho, hc⟩ := hr g e
  rw [h] at ho
  cases ho; cases hc
theorem DoS.own {w1 W W' : World} {T n : Nat} {s : List Int} (h : DoS w1 W T n s) {row : Option Nat} (hg : W.grownBy W' row) (hr : ∀ r, row = some r → w1.heap.size ≤ r ∧ ∃ o : Obj, W.heap[r]? = some o ∧ o.isCells = false) : DoS w1 W' T n s := by
  obtain ⟨g, h1, h2, h3, h4, h5, h6, h7⟩ := h
  refine ⟨g, h1.grown hg (cells_ne h1 fun r e => (hr r e).2), ?_, h3, h4, h5, h6.grown hg fun k e => (hr k e).1, Nat.le_trans h7 hg.size⟩
  rcases Nat.eq_zero_or_pos s.length with h0 | h0
  · exact ⟨Nat.lt_of_lt_of_le h2.1 hg.size, fun j hj => by omega⟩
  · refine h2.grown hg fun e => ?_
    obtain ⟨o, ho, hc⟩ := h2.cells h0
    obtain ⟨o', ho', hc'⟩ := (hr g e).2
    rw [ho] at ho'
    cases ho'; rw [hc] at hc'; cases hc'

set_option maxRecDepth 100000 in
set_option maxHeartbeats 2000000 in
theorem krDo (p : Int) (n : Nat) (vf v u : Value) (f xs b : List Int) (w : World) (ok : MatOk p n n xs) (hfv : Ints .u64 w vf f) (hf : Pol p f) (hfl : f.length ≤ 512) (hv : Ints .u64 w v xs) (hu : Ints .u64 w u b) (hb : b.length = n) (hr : Rng p b) :
    Calls Tryz.prog 42 #[.int .u64 p, vf, matV n n v, u] w (RetE 0 (pdoL p n xs f b) w) := by
  have hp2 := rightB_true ok.hp
  have hn := ok.hn
  have Hok := hid ok; have Hv := hid hv; have Hu := hid hu; have Hr := hid hr; have Hb := hid hb; have Hf := hid hf; have Hfv := hid hfv
  obtain ⟨af, cf, rfl, k1, k2, k3⟩ := hfv
  have K3 := hid k3
  obtain ⟨a, cap, rfl, -, -, -⟩ := hv
  obtain ⟨a', cap', rfl, -, m2, m3⟩ := hu
  rw [hb] at m3 Hu
  obtain ⟨bu, ou, rfl, hbu, hcu⟩ := m3 (by omega)
  have HCU := hid hcu
  rw [hb]
  clear k3 m3 hcu
  refine (callsIn_wide (n := 7)).1 ?_
  have f1 : Fence.wide.fn 46 := trivial
  have f2 : Fence.wide.fn 81 := trivial
  have f3 : Fence.wide.fn 47 := trivial
  have f4 : Fence.wide.fn 85 := trivial
  have f5 : Fence.wide.fn 52 := trivial
  have f6 : Fence.wide.fn 82 := trivial
  have f7 : Fence.wide.fn 83 := trivial
  unfold matV
  have hb3 := hid (boxesA3 w 22 25 23 #[.int .u64 p] #[.int .i64 (n : Int), .int .i64 (n : Int), .slice a xs.length cap] #[.slice (some ⟨bu, ou, none⟩) n cap'])
  have c0 := (hb3.out.1.cell 0); have c1 := hb3.out.2.1.cell 0; have c2 := hb3.out.2.1.cell 1; have c3 := hb3.out.2.1.cell 2; have c4 := hb3.out.2.2.1.cell 0
  have cc1 : Hid (∀ W, Ext w W → CallsIn Fence.wide 6 Tryz.prog 46 #[.int .u64 p, .slice af f.length cf] W fun e w' => e = .returned (.bool true) ∧ W = w') := hid fun W h => (callsIn_wide (n := 6)).2 (polRight_yes p _ f _ ok.hp (Hfv.out.ext h) hf hfl)
  have cc2 : Hid (∀ W, Ext w W → CallsIn Fence.wide 6 Tryz.prog 81 #[.int .u64 p, .agg #[.int .i64 (n : Int), .int .i64 (n : Int), .slice a xs.length cap], .slice (some ⟨bu, ou, none⟩) n cap'] W (Ret (.bool true) W)) := hid fun W h => (callsIn_wide (n := 6)).2 (by
    have := krBeside p n n _ _ xs b W (by omega) (by omega) (Hv.out.ext h) ok.u64 (Hu.out.ext h) (hr.u64 hp2.2)
    rw [besideB_ok ok hb hr] at this
    exact this)
  have hmk := make_ints (P := Tryz.prog) 23 22 .u64 8 (by omega) (by kernel_rfl) (by kernel_rfl) n n (Nat.le_refl _) (by omega)
  clear ok hr hb hf
  refine callsIn_of_wp_marks Tryz.func42 rfl trivial ?_ rfl
  simp only [Tryz.ntmps42, List.size_toArray, List.length_cons, List.length_nil, Nat.reduceAdd, Nat.reduceSub, Array.replicate_succ, Array.replicate_zero, List.push_toArray, List.append_toArray, List.nil_append, List.cons_append]
  gi_wp2_with fail
  refine (cc1.out _ hb3.out.2.2.2).mono ?_
  rintro _ _ ⟨rfl, rfl⟩
  gi_wp2_with fail
  refine (cc2.out _ hb3.out.2.2.2).mono ?_
  rintro _ w1 ⟨rfl, x1⟩
  have d4 := (hb3.out.2.2.1.ext x1).cell 0
  gi_wp2_with fail
  refine (backU_in Fence.wide 6 trivial rfl _ _ _ _).mono ?_
  rintro _ _ ⟨rfl, rfl⟩
  gi_wp2_with fail
  obtain ⟨H, hH⟩ : ∃ H, w.heap.size = H := ⟨_, rfl⟩
  obtain ⟨T, hT⟩ : ∃ T, w1.heap.size = T := ⟨_, rfl⟩
  have B0 := hid (hb3.out.1.ext x1); have B1 := hid (hb3.out.2.1.ext x1); have B2 := hid (hb3.out.2.2.1.ext x1)
  have X1 := hid (hb3.out.2.2.2.trans x1)
  have hsz := X1.out.size
  have hHT : H + 1 + 1 < T := by have := B2.out.lt; omega
  rw [hH] at B0 B1 B2
  rw [hT, hH]
  obtain ⟨w4, hw4⟩ : ∃ w4, (w1.alloc (.cells (madeCells #[Value.int .u64 0] n) 22)).alloc (.cells #[.slice (some ⟨T, 0, none⟩) n n] 23) = w4 := ⟨_, rfl⟩
  have r4 : WRow w4 T 0 (List.replicate n 0) := by
    rw [← hw4, ← hT]
    exact (WRow.made (w := w1) (t := 22) (n := n) rfl).ext ((Ext.refl _).alloc _)
  have b4 : Blk w4 (T + 1) 23 #[.slice (some ⟨T, 0, none⟩) n n] := by rw [← hw4]; exact Blk.at_ (by simp [hT])
  have x4 : Ext w1 w4 := by rw [← hw4]; exact ((Ext.refl _).alloc _).alloc _
  have s4 : w4.heap.size = T + 1 + 1 := by rw [← hw4]; simp [hT]
  rw [hw4]
  obtain ⟨w5, hw5⟩ : ∃ w5, w4.alloc (.cells #[.slice af f.length cf] 23) = w5 := ⟨_, rfl⟩
  have s5 : w5.heap.size = T + 1 + 1 + 1 := by rw [← hw5]; simp [s4]
  have x45 : Ext w4 w5 := by rw [← hw5]; exact (Ext.refl _).alloc _
  have b5 : Blk w5 (T + 1 + 1) 23 #[.slice af f.length cf] := by rw [← hw5]; exact Blk.at_ s4.symm
  rw [hw5]
  obtain ⟨ys, hys⟩ : ∃ ys : List {c : Int // 0 ≤ c ∧ c < p}, ys.map (·.1) = f := ⟨f.attach.map fun c => ⟨c.1, Hf.out.rng c.1 c.2⟩, by simp [List.map_map]⟩
  have hyl : ys.length = f.length := by rw [← hys]; simp
  obtain ⟨bq, hbq, hbq2⟩ : ∃ bq, (0 < f.length → ∃ off, af = some ⟨bq, off, none⟩) ∧ bq < T := by
    rcases Nat.eq_zero_or_pos f.length with h | h
    · exact ⟨0, fun h' => by omega, by omega⟩
    · obtain ⟨b', off, e, hb', _⟩ := K3.out h
      exact ⟨b', fun _ => ⟨off, e⟩, by omega⟩
  have hst := backU_stops (fun c : {c : Int // 0 ≤ c ∧ c < p} => Value.int .u64 c.1) Fence.wide 6 trivial rfl (by omega) (T + 1 + 1) f.length cf af ys hyl (by omega) w5 (by omega) (b5.cell 0)
    (fun h => by
      obtain ⟨b', off, e, hb', hc⟩ := K3.out h
      refine ⟨b', off, e, by omega, fun j hj => ?_⟩
      rw [((X1.out.trans x4).trans x45).cells _ _ hb', hc j (by omega), ← hys]
      simp [List.getD, hj]) bq hbq
  have J0 := hid (show DoS w1 w5 T n (List.replicate n 0) from ⟨T, b4.ext x45, r4.ext x45, by omega, by omega, Nat.le_refl _, x4.trans x45, by omega⟩)
  have HT := hid hT; have HW5 := hid s5
  clear cc1 cc2 hmk hw4 hw5 r4 b4 x4 x45 b5 c0 c1 c2 c3 c4 d4 s4
  refine wpIn_rangeFunc_ownF rfl (by omega) (gf := 85) (lb := #[.pointer (some ⟨T + 1 + 1, 0, none⟩)]) rfl trivial (enters_of Tryz.func85 (by kernel_rfl) rfl)
    hst KeepsRow.trans (fun W l o o' hl _ _ _ => KeepsRow.put (n := w5.heap.size) (by omega) (by omega) W l o' hl) (Below.refl _ _) (fun _ => rfl)
    (fun (pre : List (Nat × {c : Int // 0 ≤ c ∧ c < p})) W => DoS w1 W T n (foldD p n xs b (pre.map fun z : Nat × {c : Int // 0 ≤ c ∧ c < p} => z.2.1)))
    (fun _ _ _ => False)
    (fun pre W W' row h hg hr => DoS.own (W := W) (W' := W') (s := foldD p n xs b (pre.map fun z : Nat × {c : Int // 0 ≤ c ∧ c < p} => z.2.1)) h hg (fun q e => ⟨by have := (hr q e).1; have := HT.out; omega, (hr q e).2⟩))
    (fun _ _ _ _ _ hs _ _ => hs)
    J0.out
    (fun x' => { tmps := #[.int .u64 p, .slice af f.length cf, .agg #[.int .i64 (n : Int), .int .i64 (n : Int), .slice a xs.length cap], .slice (some ⟨bu, ou, none⟩) n cap', .pointer (some ⟨H, 0, none⟩), undef, .pointer (some ⟨H + 1, 0, none⟩), .pointer (some ⟨H + 1 + 1, 0, none⟩), .slice none 0 0, .int .i64 0, .pointer (some ⟨T + 1, 0, none⟩), undef, .int .u64 x'.2.1, undef, undef, undef,
      .int .u64 p, .slice af f.length cf, .bool true, .bool false, .bool false, .int .u64 p, .agg #[.int .i64 (n : Int), .int .i64 (n : Int), .slice a xs.length cap], .slice (some ⟨bu, ou, none⟩) n cap', .bool true, .bool false, .bool false, .slice (some ⟨bu, ou, none⟩) n cap', .int .i64 (n : Int), .slice (some ⟨T, 0, none⟩) n n, .slice af f.length cf,
      .func (.func 85) #[] #[.pointer (some ⟨T + 1 + 1, 0, none⟩)], .int .i64 (x'.1 : Int), .int .u64 x'.2.1, undef, undef, undef, undef, undef, undef, undef, undef, undef, undef, undef, undef, undef, undef, undef, undef, undef, undef, undef, undef, undef, undef, undef, undef, undef, undef, undef, undef, undef, undef, undef, undef, undef, undef, undef, undef, undef], defers := [] }) ?assign ?body ?done ?stop
  case assign =>
    intro l x' W K hK
    gi_wp2
    exact hK
  case body =>
    rintro l pre ⟨ix, c, hc0, hc1⟩ W ⟨g, q1, q2, q3, q4, q5, q6, q7⟩ hlt
    dsimp only
    have hmx : Tryz.prog.follows .mixedOrders = true := by kernel_rfl
    obtain ⟨S, eS⟩ : ∃ S, foldD p n xs b (pre.map fun z : Nat × {c : Int // 0 ≤ c ∧ c < p} => z.2.1) = S := ⟨_, rfl⟩
    have ES := hid eS
    rw [eS] at q2
    have hSl : S.length = n := by rw [← eS]; exact foldD_len _ _ _ _ _
    have hSr : Rng p S := by rw [← eS]; exact foldD_rng hp2.1 _ _ _ _
    have hT2 := HT.out
    have hHT2 : H + 1 + 1 < w1.heap.size := by omega
    have hsI := q2.ints' hSl (Nat.le_refl n) (by omega)
    have ct := hid ((callsIn_wide (n := 4)).2 (mxTimesW p n n _ _ xs S W Hok.out (Hv.out.ext (X1.out.trans q6)) hsI hSr hSl))
    have Q1 := hid q1; have Q6 := hid q6
    have e0 := (B0.out.ext q6).cell 0; have e1 := (B1.out.ext q6).cell 0; have e2 := (B1.out.ext q6).cell 1; have e3 := (B1.out.ext q6).cell 2; have e4 := q1.cell 0
    have hWs := q6.size
    obtain ⟨R, eR⟩ : ∃ R, timesL p n n xs S = R := ⟨_, rfl⟩
    have hRl : R.length = n := by rw [← eR]; exact timesL_len _ _ _ _
    have hRr : Rng p R := by rw [← eR]; exact timesL_rng hp2.1 _ _ _ _
    rw [eR] at ct
    have ER := hid eR
    unfold matV at ct
    clear eS eR q1 q2 hsI hSl hSr
    gi_wp2_with fail
    refine (CallsIn.inRound l ct.out).mono ?_
    rintro _ w6 ⟨g6, rfl, hg6, r6, x6⟩
    have b6 := (Q1.out.ext x6)
    have e5 := b6.frozen 0; have e6 := b6.cell 0
    clear e0 e1 e2 e3 e4
    have hs6 := x6.size
    gi_wp2_with fail
    have hg7 : W.grownBy (w6.setCell ⟨T + 1, 0, none⟩ (.slice (some ⟨g6, 0, none⟩) n n)) (some (T + 1)) := (x6.grownBy _).trans (setCell_grown _ _ _)
    have k7 := hid (show KeepsOthers W (w6.setCell ⟨T + 1, 0, none⟩ (.slice (some ⟨g6, 0, none⟩) n n)) from (ko_ext x6).trans (KeepsOthers.setCell _ _ _))
    have k8 := hid (KeepsRow.grown (Bs := T + 1 + 1) (b := bq) hg7 (by omega) (by omega) (by omega) (by omega))
    have b7 := hid (b6.set_ 0 (.slice (some ⟨g6, 0, none⟩) n n))
    have r7 := hid (r6.grown (setCell_grown w6 ⟨T + 1, 0, none⟩ (.slice (some ⟨g6, 0, none⟩) n n)) (fun e => by injection e with e; have : T + 1 = g6 := e; omega))
    have x7 := hid (show Ext w1 (w6.setCell ⟨T + 1, 0, none⟩ (.slice (some ⟨g6, 0, none⟩) n n)) from (Q6.out.trans x6).setCell (by show w1.heap.size ≤ T + 1; omega) _)
    have s7 := hg7.size
    obtain ⟨w7, hw7⟩ : ∃ w7, w6.setCell ⟨T + 1, 0, none⟩ (.slice (some ⟨g6, 0, none⟩) n n) = w7 := ⟨_, rfl⟩
    rw [hw7] at k7 k8 b7 r7 x7 s7 ⊢
    have HRl := hid hRl
    clear hw7 hg7 e5 e6 b6 r6
    gi_loopw [43] (fun jv wl => ∃ (j : Nat) (L : List Int), jv = .int .i64 j ∧ j ≤ n ∧ Hid (L.length = n) ∧ Hid (∀ t, L.getD t 0 = if t < j then (R.getD t 0 + c * b.getD t 0 % p) % p else R.getD t 0) ∧ Hid (WRow wl g6 0 L) ∧ Hid (Blk wl (T + 1) 23 #[.slice (some ⟨g6, 0, none⟩) n n]) ∧ Hid (KeepsOthers W wl) ∧ Hid (KeepsRow (T + 1 + 1) bq W wl) ∧ Hid (Ext w1 wl) ∧ W.heap.size ≤ wl.heap.size) (fun jv _ => n - (intOf jv).toNat)
    case atStart => exact ⟨0, R, rfl, Nat.zero_le _, HRl, hid (fun t => by simp), r7, b7, k7, k8, x7, s7⟩
    case round =>
      clear k7 k8 b7 r7 x7 s7
      obtain ⟨j, L, rfl, hj, HLl, HLt, HL, HB, HKO, HKR, HX, hsl⟩ := hrel
      rename World => wl
      have e4 := HB.out.cell 0
      by_cases hlj : j < n
      · have hcj := HCU.out j hlj
        have hbr := Hr.out.getD hp2.1 j
        obtain ⟨y, ey⟩ : ∃ y, b.getD j 0 = y := ⟨_, rfl⟩
        rw [ey] at hcj hbr
        have hLr := hRr.getD hp2.1 j
        have hLj := HLt.out j
        rw [if_neg (Nat.lt_irrefl j)] at hLj
        rw [← hLj] at hLr
        obtain ⟨q, eq⟩ : ∃ q, L.getD j 0 = q := ⟨_, rfl⟩
        rw [eq] at hLr
        obtain ⟨d, ed, d0, d1⟩ := name_mod (p := p) (c * y) hp2.1
        obtain ⟨r, er, r0, r1⟩ := name_mod (p := p) (q + d) hp2.1
        have Ed := hid ed; have Er := hid er; have Ey := hid ey; have Eq := hid eq
        have hj1 : (j : Int) < (n : Int) := by omega
        have CF := hid fun (W' : World) (hS : Ext wl W') => (show W'.cell? ⟨H, 0, none⟩ = some (.int .u64 p) ∧ W'.cell? ⟨H + 1 + 1, 0, none⟩ = some (.slice (some ⟨bu, ou, none⟩) n cap') ∧ W'.cell? ⟨bu, ou + j, none⟩ = some (.int .u64 y) from
          ⟨(B0.out.ext (HX.out.trans hS)).cell 0, (B2.out.ext (HX.out.trans hS)).cell 0, (((X1.out.trans HX.out).trans hS).cells _ _ hbu).trans hcj⟩)
        clear ed er ey eq hcj hLj
        gi_wp2_with fail
        refine region_round (fun W' => Ext wl W') hmx (by kernel_rfl) (by rintro ⟨_, _, h⟩; exact h) ((Ext.refl wl).drew) (fun hHeld => ?_)
        refine wpAnyH_take (i := 0) (v := .int .u64 p) rfl (by kernel_rfl) (by kernel_rfl) (by kernel_rfl) (fun _ _ _ h => h) (Or.inl ⟨by rfl, ?_⟩) hHeld ?_
        · intro W' hSw
          obtain ⟨q1, q2, q3⟩ := CF.out W' hSw
          go_simp
        refine wpAnyH_take (i := 1) (v := .int .u64 c) rfl (by kernel_rfl) (by kernel_rfl) (by kernel_rfl) (fun _ _ _ h => h) (Or.inl ⟨by rfl, ?_⟩) hHeld ?_
        · intro W' hSw
          obtain ⟨q1, q2, q3⟩ := CF.out W' hSw
          go_simp
        refine wpAnyH_take (i := 2) (v := .slice (some ⟨bu, ou, none⟩) n cap') rfl (by kernel_rfl) (by kernel_rfl) (by kernel_rfl) (fun _ _ _ h => h) (Or.inl ⟨by rfl, ?_⟩) hHeld ?_
        · intro W' hSw
          obtain ⟨q1, q2, q3⟩ := CF.out W' hSw
          go_simp
        refine wpAnyH_take (i := 3) (v := .int .i64 (j : Int)) rfl (by kernel_rfl) (by kernel_rfl) (by kernel_rfl) (fun _ _ _ h => h) (Or.inl ⟨by rfl, ?_⟩) hHeld ?_
        · intro W' hSw
          obtain ⟨q1, q2, q3⟩ := CF.out W' hSw
          go_simp
        refine wpAnyH_take (i := 4) (v := .pointer (some ⟨bu, ou + j, none⟩)) rfl (by kernel_rfl) (by kernel_rfl) (by kernel_rfl) (fun _ _ _ h => h) (Or.inl ⟨by rfl, ?_⟩) hHeld ?_
        · intro W' hSw
          obtain ⟨q1, q2, q3⟩ := CF.out W' hSw
          go_simp
        refine wpAnyH_take (i := 5) (v := .int .u64 y) rfl (by kernel_rfl) (by kernel_rfl) (by kernel_rfl) (fun _ _ _ h => h) (Or.inl ⟨by rfl, ?_⟩) hHeld ?_
        · intro W' hSw
          obtain ⟨q1, q2, q3⟩ := CF.out W' hSw
          go_simp
        refine held_step 6 (by kernel_rfl) rfl (fun K hK => ?_)
        go_simp
        go_wp2_with fail
        refine (mul_as p c y d _ Hok.out.hp hc0 hc1 hbr.1 hbr.2 Ed.out).mono ?_
        rintro _ w9 ⟨rfl, h9⟩
        have x9 : Ext wl w9 := ((Ext.refl wl).drew).trans h9
        go_wp2_with fail
        refine hK.out _ _ x9 (fun hHeld => ?_)
        clear hK K
        refine wpAnyH_take (i := 7) (v := .tuple #[.int .u64 d, .int .i64 0]) rfl (by kernel_rfl) (by kernel_rfl) (by kernel_rfl) (fun _ _ _ h => h) (Or.inl ⟨by rfl, ?_⟩) hHeld ?_
        · intro W' hSw
          obtain ⟨q1, q2, q3⟩ := CF.out W' hSw
          go_simp
        refine wpAnyH_take (i := 8) (v := .int .u64 d) rfl (by kernel_rfl) (by kernel_rfl) (by kernel_rfl) (fun _ _ _ h => h) (Or.inl ⟨by rfl, ?_⟩) hHeld ?_
        · intro W' hSw
          obtain ⟨q1, q2, q3⟩ := CF.out W' hSw
          go_simp
        refine wpAnyH_take (i := 9) (v := .int .i64 0) rfl (by kernel_rfl) (by kernel_rfl) (by kernel_rfl) (fun _ _ _ h => h) (Or.inl ⟨by rfl, ?_⟩) hHeld ?_
        · intro W' hSw
          obtain ⟨q1, q2, q3⟩ := CF.out W' hSw
          go_simp
        refine wpAnyH_take (i := 10) (v := .int .u64 d) rfl (by kernel_rfl) (by kernel_rfl) (by kernel_rfl) (fun _ _ _ h => h) (Or.inl ⟨by rfl, ?_⟩) hHeld ?_
        · intro W' hSw
          obtain ⟨q1, q2, q3⟩ := CF.out W' hSw
          go_simp
        refine wpAnyH_take (i := 11) (v := .int .i64 0) rfl (by kernel_rfl) (by kernel_rfl) (by kernel_rfl) (fun _ _ _ h => h) (Or.inl ⟨by rfl, ?_⟩) hHeld ?_
        · intro W' hSw
          obtain ⟨q1, q2, q3⟩ := CF.out W' hSw
          go_simp
        refine wpAnyH_done (by kernel_rfl) ?_ _
        have R9 := hid (HL.out.ext x9)
        have B9 := hid (HB.out.ext x9)
        have x10 := HX.out.trans x9
        have f0 := (B0.out.ext x10).cell 0; have f1 := B9.out.cell 0
        have fr := (R9.out.2 j (by rw [HLl.out]; exact hlj)).1
        rw [Nat.zero_add, Eq.out] at fr
        have CG := hid fun (W' : World) (hS : w9.grownBy W' (some g6)) => (show W'.cell? ⟨H, 0, none⟩ = some (.int .u64 p) ∧ W'.cell? ⟨T + 1, 0, none⟩ = some (.slice (some ⟨g6, 0, none⟩) n n) from
          ⟨(grown_cell hS (by have := x10.size; omega) (by omega)).trans f0, (grown_cell hS B9.out.lt (by omega)).trans f1⟩)
        have hs9 := x9.size
        have X10 := hid x10
        clear e4 x10
        gi_wp2_with fail
        refine region_round (fun W' => w9.grownBy W' (some g6)) hmx (by kernel_rfl) (by rintro ⟨_, _, h⟩; exact h) (((Ext.refl w9).drew).grownBy _) (fun hHeld => ?_)
        refine wpAnyH_take (i := 0) (v := .slice (some ⟨g6, 0, none⟩) n n) rfl (by kernel_rfl) (by kernel_rfl) (by kernel_rfl) (fun _ _ _ h => h) (Or.inl ⟨by rfl, ?_⟩) hHeld ?_
        · intro W' hSw
          obtain ⟨q1, q2⟩ := CG.out W' hSw
          go_simp
        refine wpAnyH_take (i := 1) (v := .int .i64 (j : Int)) rfl (by kernel_rfl) (by kernel_rfl) (by kernel_rfl) (fun _ _ _ h => h) (Or.inl ⟨by rfl, ?_⟩) hHeld ?_
        · intro W' hSw
          obtain ⟨q1, q2⟩ := CG.out W' hSw
          go_simp
        refine wpAnyH_take (i := 2) (v := .int .u64 p) rfl (by kernel_rfl) (by kernel_rfl) (by kernel_rfl) (fun _ _ _ h => h) (Or.inl ⟨by rfl, ?_⟩) hHeld ?_
        · intro W' hSw
          obtain ⟨q1, q2⟩ := CG.out W' hSw
          go_simp
        refine wpAnyH_take (i := 3) (v := .slice (some ⟨g6, 0, none⟩) n n) rfl (by kernel_rfl) (by kernel_rfl) (by kernel_rfl) (fun _ _ _ h => h) (Or.inl ⟨by rfl, ?_⟩) hHeld ?_
        · intro W' hSw
          obtain ⟨q1, q2⟩ := CG.out W' hSw
          go_simp
        refine wpAnyH_take (i := 4) (v := .int .i64 (j : Int)) rfl (by kernel_rfl) (by kernel_rfl) (by kernel_rfl) (fun _ _ _ h => h) (Or.inl ⟨by rfl, ?_⟩) hHeld ?_
        · intro W' hSw
          obtain ⟨q1, q2⟩ := CG.out W' hSw
          go_simp
        refine wpAnyH_take (i := 5) (v := .pointer (some ⟨g6, j, none⟩)) rfl (by kernel_rfl) (by kernel_rfl) (by kernel_rfl) (fun _ _ _ h => h) (Or.inl ⟨by rfl, ?_⟩) hHeld ?_
        · intro W' hSw
          obtain ⟨q1, q2⟩ := CG.out W' hSw
          go_simp
        refine wpAnyH_take (i := 7) (v := .int .u64 d) rfl (by kernel_rfl) (by kernel_rfl) (by kernel_rfl) (fun _ _ _ h => h) (Or.inl ⟨by rfl, ?_⟩) hHeld ?_
        · intro W' hSw
          obtain ⟨q1, q2⟩ := CG.out W' hSw
          go_simp
        refine held_step 6 (by kernel_rfl) rfl (fun K hK => ?_)
        have fr2 := (((Ext.refl w9).drew).cells _ _ (cell_lt fr)).trans fr
        go_simp
        refine hK.out _ _ hHeld (fun hHeld => ?_)
        clear hK K fr2
        refine held_step 8 (by kernel_rfl) rfl (fun K hK => ?_)
        go_simp
        go_wp2_with fail
        refine (add_as p q d r _ Hok.out.hp hLr.1 hLr.2 d0 d1 Er.out).mono ?_
        rintro _ w11 ⟨rfl, h11⟩
        have x11 : Ext w9 w11 := ((Ext.refl w9).drew).trans h11
        go_wp2_with fail
        refine hK.out _ _ (x11.grownBy _) (fun hHeld => ?_)
        clear hK K
        refine wpAnyH_take (i := 9) (v := .tuple #[.int .u64 r, .int .i64 0]) rfl (by kernel_rfl) (by kernel_rfl) (by kernel_rfl) (fun _ _ _ h => h) (Or.inl ⟨by rfl, ?_⟩) hHeld ?_
        · intro W' hSw
          obtain ⟨q1, q2⟩ := CG.out W' hSw
          go_simp
        refine wpAnyH_take (i := 10) (v := .int .u64 r) rfl (by kernel_rfl) (by kernel_rfl) (by kernel_rfl) (fun _ _ _ h => h) (Or.inl ⟨by rfl, ?_⟩) hHeld ?_
        · intro W' hSw
          obtain ⟨q1, q2⟩ := CG.out W' hSw
          go_simp
        refine wpAnyH_take (i := 11) (v := .int .i64 0) rfl (by kernel_rfl) (by kernel_rfl) (by kernel_rfl) (fun _ _ _ h => h) (Or.inl ⟨by rfl, ?_⟩) hHeld ?_
        · intro W' hSw
          obtain ⟨q1, q2⟩ := CG.out W' hSw
          go_simp
        refine wpAnyH_take (i := 12) (v := .pointer (some ⟨g6, j, none⟩)) rfl (by kernel_rfl) (by kernel_rfl) (by kernel_rfl) (fun _ _ _ h => h) (Or.inl ⟨by rfl, ?_⟩) hHeld ?_
        · intro W' hSw
          obtain ⟨q1, q2⟩ := CG.out W' hSw
          go_simp
        refine held_step 13 (by kernel_rfl) rfl (fun K hK => ?_)
        have R11 := R9.out.ext x11
        have hr9c := (R11.2 j (by rw [HLl.out]; exact hlj)).1
        have hr9f := (R11.2 j (by rw [HLl.out]; exact hlj)).2
        rw [Nat.zero_add] at hr9c hr9f
        go_simp
        have hfin : w9.grownBy (w11.setCell ⟨g6, j, none⟩ (.int .u64 r)) (some g6) := (x11.grownBy _).trans (setCell_grown _ _ _)
        refine hK.out _ _ hfin (fun hHeld => ?_)
        clear hK K
        refine wpAnyH_done (by kernel_rfl) ?_ _
        clear f0 f1 fr hr9c hr9f
        gi_wp2_with fail
        go_roundw
        case rel =>
          have hset := R11.set_ (i := j) (by rw [HLl.out]; exact hlj) r
          rw [Nat.zero_add] at hset
          have hgw : wl.grownBy (w11.setCell ⟨g6, j, none⟩ (.int .u64 r)) (some g6) := (x9.grownBy _).trans hfin
          refine ⟨j + 1, L.set j r, by go_num, by omega, hid (by rw [List.length_set]; exact HLl.out), hid (fun t => ?_), hid hset, hid (HB.out.grown hgw (fun e => by injection e with e; have : g6 = T + 1 := e; omega)), hid ((HKO.out.trans (ko_ext (x9.trans x11))).trans (KeepsOthers.setCell _ _ _)), hid (HKR.out.trans (KeepsRow.grown hgw (by omega) (by omega) (by omega) (by omega))), hid ((HX.out.trans (x9.trans x11)).setCell (by show w1.heap.size ≤ g6; omega) _), Nat.le_trans hsl hgw.size⟩
          rw [set_get L j t r (by rw [HLl.out]; exact hlj)]
          have hq : R.getD j 0 = q := by have h := HLt.out j; rw [if_neg (Nat.lt_irrefl j), Eq.out] at h; exact h.symm
          by_cases e : j = t
          · subst e
            rw [if_pos rfl, if_pos (by omega), Ey.out, Ed.out, hq, Er.out]
          · rw [if_neg e, HLt.out t]
            by_cases e2 : t < j
            · rw [if_pos e2, if_pos (by omega)]
            · rw [if_neg e2, if_neg (by omega)]
        case measure => simp [intOf]; omega
      · obtain rfl : n = j := by omega
        gi_wp2_with fail
        refine ⟨HKO.out, HKR.out, g6, HB.out, ?_, by omega, by omega, by omega, HX.out, by omega⟩
        have e : foldD p n xs b ((pre ++ [((ix, (⟨c, hc0, hc1⟩ : {c : Int // 0 ≤ c ∧ c < p})) : Nat × {c : Int // 0 ≤ c ∧ c < p})]).map fun z : Nat × {c : Int // 0 ≤ c ∧ c < p} => z.2.1) = L := by
          rw [List.map_append, List.map_cons, List.map_nil, foldD_snoc, ES.out]
          refine list_ext (by rw [HLl.out]; exact tab_len _ _) fun t ht => ?_
          have ht' : t < n := by unfold stepD at ht; rwa [tab_len] at ht
          rw [HLt.out t, if_pos ht', ← ER.out]
          exact tab_get _ ht'
        rw [e]
        exact HL.out
  case done =>
    rintro D zs W hD hS ⟨g, q1, q2, q3, q4, q5, q6, q7⟩ hK
    have e4 := q1.cell 0
    have e : zs.map (fun z : Nat × {c : Int // 0 ≤ c ∧ c < p} => z.2.1) = f.reverse := by
      have := congrArg (List.map Subtype.val) hS
      rw [List.map_map, List.map_reverse, hys] at this
      exact this
    rw [e, foldD_all] at q2
    have hpl := pdoL_len (p := p) (n := n) (xs := xs) f b
    have hne : (some D : Option Nat) ≠ some g := fun e => by
      obtain ⟨o, ho, hc⟩ := q2.cells (by rw [hpl]; omega)
      have e' : D = g := by injection e
      subst e'
      rw [hK] at ho
      cases ho; cases hc
    have hI := (q2.grown (grownBy_putObj' W D (.deferred none)) hne).ints' hpl (Nat.le_refl n) (by omega)
    have hE := (X1.out.trans q6).grown (grownBy_putObj' W D (.deferred none)) (fun k e => by injection e with e; have : D = k := e; omega)
    gi_wp2
    refine ⟨by simp, .inl ⟨_, _, rfl, run_takeDeferred hK, ?_⟩⟩
    exact ⟨_, results_tmp2 rfl _ _ _, _, rfl, hI, hE⟩
  case stop =>
    rintro D c pre W _ _ h _
    exact h.elim
end Go.Proofs.YtijpeepdedfhoaaGreat
