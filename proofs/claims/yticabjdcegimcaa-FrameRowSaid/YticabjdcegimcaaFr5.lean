/- Package frame: what bytes tell, number by number; the first bytes. -/
import Derived.Test.YticabjdcegimcaaFr3
import Derived.Test.YticabjdcegimcaaChunk8
import Derived.Test.YticabjdcegimcaaRound
import Derived.Test.YticabjdcegimcaaStep
import Derived.RangeFuncCalls
import Derived.StillTailTactics
namespace Go.Proofs.Yticabjdcegimcaa
open Go.RowKit Go.Maps Go.Shelf

attribute [local go_sem] Oper.semAt_some

theorem cutL_get {b : List Int} {o n j : Nat} (h : j < n) : (cutL b o n).getD j 0 = b.getD (o + j) 0 := by
  unfold cutL; simp [List.getD, h]
/-- a piece of bytes -/
theorem Ints.cut {k : IntKind} {w : World} {b off m cap : Nat} {xs : List Int} (h : Ints k w (.slice (some ⟨b, off, none⟩) m cap) xs) (lo n c : Nat) (hn : lo + n ≤ xs.length) (hc : n ≤ c) (hc2 : c ≤ 9223372036854775807) :
    Ints k w (.slice (some ⟨b, off + lo, none⟩) n c) (cutL xs lo n) := by
  obtain ⟨a, cap', e, h1, h2, h3⟩ := h
  injection e with e1 e2 e3
  subst e1; subst e3
  have hl := cutL_len hn
  refine ⟨_, c, by rw [hl], by omega, by omega, fun hp => ?_⟩
  obtain ⟨b', off', ha, hb, hcl⟩ := h3 (by omega)
  injection ha with ha
  injection ha with e4 e5
  subst e4; subst e5
  refine ⟨b, off + lo, rfl, hb, fun j hj => ?_⟩
  rw [hl] at hj
  rw [Nat.add_assoc, hcl (lo + j) (by omega), cutL_get hj]
theorem ownFrom_blk {β : Type} {B g : Nat} {t : TypeId} {cs : Array Value} : OwnFrom B (fun (_ : β) W => Blk W g t cs) := fun _ W W' row h hg hr =>
  (hg.block g h.lt (fun e => by
    obtain ⟨_, o, ho, hc⟩ := hr g e.symm
    have h' : W.heap[g]? = _ := h
    rw [h'] at ho; cases ho; cases hc)).trans h
/-- the numbers that bytes tell -/
def numsB (xs : List Int) (n : Nat) : List Int := (List.range n).map fun i => ofB (cutL xs (i * 8) 8)
theorem numsB_cut {b : List Int} {n : Nat} (m : Nat) (hm : m = 8 * n) : numsB (cutL b 9 m) n = bodyF b n := by
  subst hm
  unfold numsB bodyF
  refine List.map_congr_left fun i hi => ?_
  have hi := List.mem_range.1 hi
  congr 1
  unfold cutL
  rw [List.drop_take, List.drop_drop, List.take_take, show min 8 (8 * n - i * 8) = 8 by omega, Nat.mul_comm i 8]

set_option maxRecDepth 100000 in
set_option maxHeartbeats 2000000 in
theorem frNumbers (b off L cap N : Nat) (xs : List Int) (w : World) (hL : L = N * 8) (hN : N ≤ 9000) (hxl : xs.length = L) (hv : Ints .u8 w (.slice (some ⟨b, off, none⟩) L cap) xs) (hx : Byt xs) (hcap : L ≤ cap) :
    Calls Try.prog 23 #[.slice (some ⟨b, off, none⟩) L cap] w fun e w' => ∃ u, e = .returned u ∧ w'.ownsRow w.heap.size 48 1 u N ((numsB xs N).map (Value.int .u64)) ∧ Ext w w' := by
  obtain ⟨i0, hi, hz0, hz1, hz2⟩ := info_parts info_u64p
  have HV := hid hv; have HX := hid hx; have HXL := hid hxl
  subst hL
  clear hv hx hxl
  have hmk : ∀ W, (Instr.makeSlice 23 (.int .i64 0) (.int .i64 (N : Int))).run Try.prog W = .ok (.slice (some ⟨W.heap.size, 0, none⟩) 0 N) (W.alloc (.cells (madeCells #[Value.int .u64 0] N) 48)) :=
    fun W => make_ints (P := Try.prog) 23 48 .u64 8 (by omega) (by kernel_rfl) (by kernel_rfl) 0 N (by omega) (by omega) W
  have C2 := hid fun (W : World) => (callsIn_wide (n := 6)).2 (chunk8_any (some ⟨b, off, none⟩) (N * 8) cap 8 (by omega) W)
  have hq : ((N : Int) * 8).tdiv 8 = (N : Int) := by rw [Int.tdiv_eq_ediv_of_nonneg (by omega)]; omega
  have hq2 : (((N * 8 : Nat) : Int)) = (N : Int) * 8 := by push_cast; rfl
  refine (callsIn_wide (n := 7)).1 ?_
  have f1 : Fence.wide.fn 26 := trivial
  have f2 : Fence.wide.fn 27 := trivial
  have f3 : Fence.wide.fn 22 := trivial
  have hO0 := hid (own_made0 w 48 (.int .u64 0) N (by omega))
  have hmx : Try.prog.follows .mixedOrders = true := by kernel_rfl
  refine callsIn_of_wp_marks Try.func23 rfl trivial ?_ rfl
  simp only [Try.ntmps23, List.size_toArray, List.length_cons, List.length_nil, Nat.reduceAdd, Nat.reduceSub, Array.replicate_succ, Array.replicate_zero, List.push_toArray, List.append_toArray, List.nil_append, List.cons_append]
  gi_wp2_with fail
  obtain ⟨w2, hw2⟩ : ∃ w2, ((w.alloc (.cells (madeCells #[Value.int .u64 0] N) 48)).alloc (.cells #[.slice (some ⟨w.heap.size, 0, none⟩) 0 N] 23)) = w2 := ⟨_, rfl⟩
  have x2 : Ext w w2 := hw2 ▸ ((Ext.refl w).alloc _).alloc _
  have hB2 := Blk.new (w.alloc (.cells (madeCells #[Value.int .u64 0] N) 48)) 23 #[.slice (some ⟨w.heap.size, 0, none⟩) 0 N]
  have hO2 := hO0.out.alloc (.cells #[.slice (some ⟨w.heap.size, 0, none⟩) 0 N] 23)
  have hs2 : w2.heap.size = w.heap.size + 1 + 1 := by rw [← hw2]; simp
  rw [hw2] at hB2 hO2 ⊢
  rw [alloc_size] at hB2
  clear hw2 hO0
  refine (C2.out _).mono ?_
  rintro _ _ ⟨rfl, rfl⟩
  rw [hs2]
  obtain ⟨H, hH⟩ : ∃ H, w.heap.size = H := ⟨_, rfl⟩
  have HH := hid hH
  rw [hH] at hs2 hB2 hO2 ⊢
  clear hH
  have hB5 := (hB2.ext ((Ext.refl w2).alloc (.cells #[.slice (some ⟨b, off, none⟩) (N * 8) cap] 26))).ext ((Ext.refl _).alloc (.cells #[.int .i64 (8 : Int)] 3))
  have hO5 := (hO2.alloc (.cells #[.slice (some ⟨b, off, none⟩) (N * 8) cap] 26)).alloc (.cells #[.int .i64 (8 : Int)] 3)
  have hC1 := (Blk.new w2 26 #[.slice (some ⟨b, off, none⟩) (N * 8) cap]).ext ((Ext.refl _).alloc (.cells #[.int .i64 (8 : Int)] 3))
  have hC2 := (Blk.new (w2.alloc (.cells #[.slice (some ⟨b, off, none⟩) (N * 8) cap] 26)) 3 #[.int .i64 (8 : Int)])
  have x5 : Ext w2 ((w2.alloc (.cells #[.slice (some ⟨b, off, none⟩) (N * 8) cap] 26)).alloc (.cells #[.int .i64 (8 : Int)] 3)) := ((Ext.refl w2).alloc _).alloc _
  rw [alloc_size, hs2] at hC2
  rw [hs2] at hC1
  obtain ⟨w5, hw5⟩ : ∃ w5, (w2.alloc (.cells #[.slice (some ⟨b, off, none⟩) (N * 8) cap] 26)).alloc (.cells #[.int .i64 (8 : Int)] 3) = w5 := ⟨_, rfl⟩
  have hs5 : w5.heap.size = H + 1 + 1 + 1 + 1 := by rw [← hw5]; simp [hs2]
  gi_wp2_with fail
  rw [hw5] at hB5 hO5 hC1 hC2 x5
  clear hw5 hB2 hO2
  have xw5 : Ext w w5 := x2.trans x5
  have hst := chunk8_stops_in Fence.wide 6 trivial rfl (by omega) (H + 1 + 1) (H + 1 + 1 + 1) b off (N * 8) cap N 8 rfl (by omega) (by omega) hcap w5 (by omega) (by omega) (hC1.cell 0) (hC2.cell 0)
  obtain ⟨b1, o1, e1, -, hbl0, hcl⟩ : ∃ b1 o1, (some (⟨b, off, none⟩ : Addr)) = some ⟨b1, o1, none⟩ ∧ True ∧ (0 < N → b < w.heap.size) ∧ True := ⟨b, off, rfl, trivial, fun h => by
    obtain ⟨_, _, e, _, hb, _⟩ := HV.out.cell (by rw [HXL.out]; omega)
    injection e with e; injection e with e _; subst e; exact hb, trivial⟩
  clear e1 b1 o1 hcl
  refine wpIn_rangeFunc_ownF rfl (by omega) (gf := 27) (lb := #[.pointer (some ⟨H + 1 + 1, 0, none⟩), .pointer (some ⟨H + 1 + 1 + 1, 0, none⟩)]) rfl trivial (enters_of Try.func27 (by kernel_rfl) rfl)
    hst KeepsRow.trans (fun W l o o' hl _ _ _ => KeepsRow.put (n := w5.heap.size) (by omega) (by omega) W l o' hl) (Below.refl _ _) (fun _ => rfl)
    (fun pre W => (∃ v, Boxed W (H + 1) 23 v ∧ W.ownsRow H 48 1 v pre.length (pre.map fun x : {x : Nat // x < N} => Value.int .u64 (ofB (cutL xs (x.1 * 8) 8))) ∧ True) ∧ (Below H w5 W ∧ (Blk W (H + 1 + 1) 26 #[.slice (some ⟨b, off, none⟩) (N * 8) cap] ∧ Blk W (H + 1 + 1 + 1) 3 #[.int .i64 8])))
    (fun _ _ _ => False)
    (OwnFrom.and (Own.from (holdsRow_own H (H + 1) 23 48 1 (fun pre : List {x : Nat // x < N} => pre.length) (fun pre => pre.map fun x => Value.int .u64 (ofB (cutL xs (x.1 * 8) 8))) (fun _ _ => True)) _) (OwnFrom.and (ownFrom_below (by omega) (by omega)) (OwnFrom.and ownFrom_blk ownFrom_blk)))
    (fun _ _ _ _ _ hs _ _ => hs)
    ⟨⟨_, hB5, hO5, trivial⟩, Below.refl _ _, hC1, hC2⟩
    (fun x => { tmps := #[.slice (some ⟨b, off, none⟩) (N * 8) cap, undef, .slice none 0 0, .pointer (some ⟨H + 1, 0, none⟩), piece8V b off 8 x.1, .slice (some ⟨b, off, none⟩) (N * 8) cap, .int .i64 ((N : Int) * 8), .int .i64 (N : Int), .slice (some ⟨H, 0, none⟩) 0 N,
      .slice (some ⟨b, off, none⟩) (N * 8) cap, .func (.func 27) #[] #[.pointer (some ⟨H + 1 + 1, 0, none⟩), .pointer (some ⟨H + 1 + 1 + 1, 0, none⟩)], piece8V b off 8 x.1, undef, undef, undef, undef, undef, undef], defers := [] }) ?assign ?body ?done ?stop
  case assign =>
    intro l x W K hK
    gi_wp2
    exact hK
  case body =>
    rintro l pre ⟨x, hx⟩ W ⟨⟨v, hv, hrow, -⟩, hbl, hc2, hc3⟩ hlt
    have hbH : b < H := by have := hbl0 (by omega); rw [HH.out] at this; exact this
    have hpc : ∀ W', Ext W W' → Ints .u8 W' (piece8V b off 8 x) (cutL xs (x * 8) 8) := fun W' hW => by
      refine (Ints.cut (m := N * 8) (cap := cap) ?_ (x * 8) 8 8 (by rw [HXL.out]; omega) (by omega) (by omega)).ext hW
      obtain ⟨a', cap', e, q1, q2, q3⟩ := HV.out
      refine ⟨a', cap', e, q1, q2, fun hp => ?_⟩
      obtain ⟨b', off', ha, hb', hc'⟩ := q3 hp
      injection e with e1 _ _
      rw [ha] at e1
      injection e1 with e1
      injection e1 with e1 e2
      subst e1
      refine ⟨b, off', ha, by have := hbl.size; omega, fun j hj => ?_⟩
      rw [Below.cell (p := ⟨b, off' + j, none⟩) hbl hbH, xw5.cells _ _ hb']
      exact hc' j hj
    have CN := hid fun (W' : World) (hW : Ext W W') => frNumber _ _ W' (hpc W' hW) (cutL_byt HX.out _ _) (by rw [cutL_len (by rw [HXL.out]; omega)]; omega)
    have HNX := hid (show (pre.map fun x : {x : Nat // x < N} => Value.int .u64 (ofB (cutL xs (x.1 * 8) 8))) ++ [.int .u64 (ofB (cutL xs (x * 8) 8))] = (pre ++ [(⟨x, hx⟩ : {x : Nat // x < N})]).map fun x => Value.int .u64 (ofB (cutL xs (x.1 * 8) 8)) by rw [List.map_append]; rfl)
    obtain ⟨y, ey⟩ : ∃ y, ofB (cutL xs (x * 8) 8) = y := ⟨_, rfl⟩
    rw [ey] at CN HNX
    have hrowd := hid (ownsRow_ext hrow ((Ext.refl W).drew))
    have hHW := hid (show H ≤ W.heap.size by have := hbl.size; omega)
    have hv := hid hv; have hrow := hid hrow; have hbl := hid hbl; have hc2 := hid hc2; have hc3 := hid hc3
    clear hpc ey
    have hcell : W.drew.cell? ⟨H + 1, 0, none⟩ = some v := hv.out.cell
    have hcell2 : (W.alloc (.cells #[.int .u64 y] 48)).drew.cell? ⟨H + 1, 0, none⟩ = some v := (hv.out.alloc _).cell
    have hcell3 : (W.alloc (.cells #[.int .u64 y] 48)).cell? ⟨H + 1, 0, none⟩ = some v := (hv.out.alloc _).cell
    have hcell4 : W.cell? ⟨H + 1, 0, none⟩ = some v := hv.out.cell
    unfold piece8V at CN ⊢
    gi_wp2_with fail
    refine region_round (fun _ => True) hmx (by kernel_rfl) (by rintro ⟨_, _, h⟩; exact h) trivial (fun hHeld => ?_)
    refine wpAnyH_take (i := 1) (v := .slice (some ⟨b, off + x * 8, none⟩) 8 8) rfl (by kernel_rfl) (by kernel_rfl) (by kernel_rfl) (fun _ _ _ h => h) (Or.inl ⟨by rfl, ?_⟩) hHeld ?_
    · intro W' hSw
      go_simp
    refine wpAnyH_ready (rs := [0, 2]) (by kernel_rfl) (by simp) ?_
    refine AllReadyH.cons rfl (fun K hK => ?_) ?_
    · go_simp
      refine hK.out _ _ trivial (fun hHeld => ?_)
      clear hK K
      refine held_step 2 (by kernel_rfl) rfl (fun K hK => ?_)
      go_simp
      go_wp2_with fail
      refine (CN.out _ (by first | exact Ext.refl _ | exact ((Ext.refl W).drew))).mono ?_
      rintro _ _ ⟨rfl, rfl⟩
      go_wp2_with fail
      refine hK.out _ _ trivial (fun hHeld => ?_)
      clear hK K
      refine held_step 3 (by kernel_rfl) rfl (fun K hK => ?_)
      go_simp
      go_wp2_with fail
      refine hK.out _ _ trivial (fun hHeld => ?_)
      clear hK K
      refine held_step 4 (by kernel_rfl) rfl (fun K hK => ?_)
      refine step_append_at _ rfl _ _ 23 rfl H 48 i0 (.int .u64 0) 1 8 Try.underlying23 hi hz0 hz1 hz2 rfl (by decide) v _ _ (by simp [Act.eval]) (ownsRow_ext hrow.out (((Ext.refl W).alloc (.cells #[.int .u64 y] 48)).drew)) ⟨W.heap.size, 0, none⟩ 1 1 [.int .u64 y] (by simp [Act.eval]) rfl (fun j u h => cells_new W [.int .u64 y] 48 rfl j u h) (by simp [Value.oneCell']) (by simp only [maxLen]; omega) (by omega) (by have := hHW.out; simp; omega) ?_
      intro v6 w6 hown6 hgrow6 hat6
      obtain ⟨ab, cb, rfl⟩ : ∃ ab cb, v6 = .slice ab (pre.length + 1) cb := by
        obtain ⟨g', cap', h⟩ := ownsRow_succ hown6
        exact ⟨_, _, h⟩
      have hgr6 : (W.alloc (.cells #[.int .u64 y] 48)).grownBy w6 v.ownBlock := ⟨hgrow6.os, hgrow6.tape, hgrow6.output, hgrow6.size, hgrow6.block⟩
      obtain ⟨hv1, hv2, hr2, hk2, hb2⟩ := hv.out.appended (tmp := .cells #[.int .u64 y] 48) (by decide) hrow.out hHW.out (by omega) hown6 hgr6
      have hB2 : Blk w6 (H + 1 + 1) 26 #[.slice (some ⟨b, off, none⟩) (N * 8) cap] := (hgr6.block _ (by have := hc2.out.lt; simp; omega) (fun e => by
        rcases ownsRow_blk hrow.out hc2.out (by decide) with h | h
        · rw [h] at e; cases e
        · exact h e.symm)).trans (hc2.out.ext ((Ext.refl W).alloc _))
      have hB3 : Blk w6 (H + 1 + 1 + 1) 3 #[.int .i64 8] := (hgr6.block _ (by have := hc3.out.lt; simp; omega) (fun e => by
        rcases ownsRow_blk hrow.out hc3.out (by decide) with h | h
        · rw [h] at e; cases e
        · exact h e.symm)).trans (hc3.out.ext ((Ext.refl W).alloc _))
      have hc6 := hv1.cell
      have hf6 := hv1.frozen
      have H2 := hid hv2; have HR2 := hid hr2; have HK2 := hid hk2; have HB2 := hid hb2; have HC2 := hid (hB2.two (g' := H + 1) 0 (.slice ab (pre.length + 1) cb) (by omega)); have HC3 := hid (hB3.two (g' := H + 1) 0 (.slice ab (pre.length + 1) cb) (by omega))
      clear hv1 hv2 hr2 hk2 hb2 hB2 hB3 hgr6 hown6 hgrow6 hat6
      refine hK.out _ _ trivial (fun hHeld => ?_)
      clear hK K
      refine held_step 5 (by kernel_rfl) rfl (fun K hK => ?_)
      go_simp
      refine hK.out _ _ trivial (fun hHeld => ?_)
      clear hK K
      refine wpAnyH_done (by kernel_rfl) ?_ _
      refine ⟨HK2.out, ⟨(HC2.out.cell 0).trans (hc2.out.cell 0).symm, fun o => ((HC3.out.cell o).trans (hc3.out.cell o).symm)⟩, ⟨_, H2.out, ?_, trivial⟩, hbl.out.trans HB2.out, HC2.out, HC3.out⟩
      rw [List.length_append, List.length_singleton, ← HNX.out]
      exact HR2.out

    refine AllReadyH.cons rfl (fun K hK => ?_) ?_
    · go_simp
      go_wp2_with fail
      refine (CN.out _ (by first | exact Ext.refl _ | exact ((Ext.refl W).drew))).mono ?_
      rintro _ _ ⟨rfl, rfl⟩
      go_wp2_with fail
      refine hK.out _ _ trivial (fun hHeld => ?_)
      clear hK K
      refine wpAnyH_ready (rs := [0, 3]) (by kernel_rfl) (by simp) ?_
      refine AllReadyH.cons rfl (fun K hK => ?_) ?_
      · go_simp
        refine hK.out _ _ trivial (fun hHeld => ?_)
        clear hK K
        refine held_step 3 (by kernel_rfl) rfl (fun K hK => ?_)
        go_simp
        go_wp2_with fail
        refine hK.out _ _ trivial (fun hHeld => ?_)
        clear hK K
        refine held_step 4 (by kernel_rfl) rfl (fun K hK => ?_)
        refine step_append_at _ rfl _ _ 23 rfl H 48 i0 (.int .u64 0) 1 8 Try.underlying23 hi hz0 hz1 hz2 rfl (by decide) v _ _ (by simp [Act.eval]) (ownsRow_ext hrow.out (((Ext.refl W).alloc (.cells #[.int .u64 y] 48)).drew)) ⟨W.heap.size, 0, none⟩ 1 1 [.int .u64 y] (by simp [Act.eval]) rfl (fun j u h => cells_new W [.int .u64 y] 48 rfl j u h) (by simp [Value.oneCell']) (by simp only [maxLen]; omega) (by omega) (by have := hHW.out; simp; omega) ?_
        intro v6 w6 hown6 hgrow6 hat6
        obtain ⟨ab, cb, rfl⟩ : ∃ ab cb, v6 = .slice ab (pre.length + 1) cb := by
          obtain ⟨g', cap', h⟩ := ownsRow_succ hown6
          exact ⟨_, _, h⟩
        have hgr6 : (W.alloc (.cells #[.int .u64 y] 48)).grownBy w6 v.ownBlock := ⟨hgrow6.os, hgrow6.tape, hgrow6.output, hgrow6.size, hgrow6.block⟩
        obtain ⟨hv1, hv2, hr2, hk2, hb2⟩ := hv.out.appended (tmp := .cells #[.int .u64 y] 48) (by decide) hrow.out hHW.out (by omega) hown6 hgr6
        have hB2 : Blk w6 (H + 1 + 1) 26 #[.slice (some ⟨b, off, none⟩) (N * 8) cap] := (hgr6.block _ (by have := hc2.out.lt; simp; omega) (fun e => by
          rcases ownsRow_blk hrow.out hc2.out (by decide) with h | h
          · rw [h] at e; cases e
          · exact h e.symm)).trans (hc2.out.ext ((Ext.refl W).alloc _))
        have hB3 : Blk w6 (H + 1 + 1 + 1) 3 #[.int .i64 8] := (hgr6.block _ (by have := hc3.out.lt; simp; omega) (fun e => by
          rcases ownsRow_blk hrow.out hc3.out (by decide) with h | h
          · rw [h] at e; cases e
          · exact h e.symm)).trans (hc3.out.ext ((Ext.refl W).alloc _))
        have hc6 := hv1.cell
        have hf6 := hv1.frozen
        have H2 := hid hv2; have HR2 := hid hr2; have HK2 := hid hk2; have HB2 := hid hb2; have HC2 := hid (hB2.two (g' := H + 1) 0 (.slice ab (pre.length + 1) cb) (by omega)); have HC3 := hid (hB3.two (g' := H + 1) 0 (.slice ab (pre.length + 1) cb) (by omega))
        clear hv1 hv2 hr2 hk2 hb2 hB2 hB3 hgr6 hown6 hgrow6 hat6
        refine hK.out _ _ trivial (fun hHeld => ?_)
        clear hK K
        refine held_step 5 (by kernel_rfl) rfl (fun K hK => ?_)
        go_simp
        refine hK.out _ _ trivial (fun hHeld => ?_)
        clear hK K
        refine wpAnyH_done (by kernel_rfl) ?_ _
        refine ⟨HK2.out, ⟨(HC2.out.cell 0).trans (hc2.out.cell 0).symm, fun o => ((HC3.out.cell o).trans (hc3.out.cell o).symm)⟩, ⟨_, H2.out, ?_, trivial⟩, hbl.out.trans HB2.out, HC2.out, HC3.out⟩
        rw [List.length_append, List.length_singleton, ← HNX.out]
        exact HR2.out

      refine AllReadyH.cons rfl (fun K hK => ?_) ?_
      · go_simp
        go_wp2_with fail
        refine hK.out _ _ trivial (fun hHeld => ?_)
        clear hK K
        refine held_step 0 (by kernel_rfl) rfl (fun K hK => ?_)
        go_simp
        refine hK.out _ _ trivial (fun hHeld => ?_)
        clear hK K
        refine held_step 4 (by kernel_rfl) rfl (fun K hK => ?_)
        refine step_append_at _ rfl _ _ 23 rfl H 48 i0 (.int .u64 0) 1 8 Try.underlying23 hi hz0 hz1 hz2 rfl (by decide) v _ _ (by simp [Act.eval]) (ownsRow_ext hrow.out (((Ext.refl W).alloc (.cells #[.int .u64 y] 48)).drew)) ⟨W.heap.size, 0, none⟩ 1 1 [.int .u64 y] (by simp [Act.eval]) rfl (fun j u h => cells_new W [.int .u64 y] 48 rfl j u h) (by simp [Value.oneCell']) (by simp only [maxLen]; omega) (by omega) (by have := hHW.out; simp; omega) ?_
        intro v6 w6 hown6 hgrow6 hat6
        obtain ⟨ab, cb, rfl⟩ : ∃ ab cb, v6 = .slice ab (pre.length + 1) cb := by
          obtain ⟨g', cap', h⟩ := ownsRow_succ hown6
          exact ⟨_, _, h⟩
        have hgr6 : (W.alloc (.cells #[.int .u64 y] 48)).grownBy w6 v.ownBlock := ⟨hgrow6.os, hgrow6.tape, hgrow6.output, hgrow6.size, hgrow6.block⟩
        obtain ⟨hv1, hv2, hr2, hk2, hb2⟩ := hv.out.appended (tmp := .cells #[.int .u64 y] 48) (by decide) hrow.out hHW.out (by omega) hown6 hgr6
        have hB2 : Blk w6 (H + 1 + 1) 26 #[.slice (some ⟨b, off, none⟩) (N * 8) cap] := (hgr6.block _ (by have := hc2.out.lt; simp; omega) (fun e => by
          rcases ownsRow_blk hrow.out hc2.out (by decide) with h | h
          · rw [h] at e; cases e
          · exact h e.symm)).trans (hc2.out.ext ((Ext.refl W).alloc _))
        have hB3 : Blk w6 (H + 1 + 1 + 1) 3 #[.int .i64 8] := (hgr6.block _ (by have := hc3.out.lt; simp; omega) (fun e => by
          rcases ownsRow_blk hrow.out hc3.out (by decide) with h | h
          · rw [h] at e; cases e
          · exact h e.symm)).trans (hc3.out.ext ((Ext.refl W).alloc _))
        have hc6 := hv1.cell
        have hf6 := hv1.frozen
        have H2 := hid hv2; have HR2 := hid hr2; have HK2 := hid hk2; have HB2 := hid hb2; have HC2 := hid (hB2.two (g' := H + 1) 0 (.slice ab (pre.length + 1) cb) (by omega)); have HC3 := hid (hB3.two (g' := H + 1) 0 (.slice ab (pre.length + 1) cb) (by omega))
        clear hv1 hv2 hr2 hk2 hb2 hB2 hB3 hgr6 hown6 hgrow6 hat6
        refine hK.out _ _ trivial (fun hHeld => ?_)
        clear hK K
        refine held_step 5 (by kernel_rfl) rfl (fun K hK => ?_)
        go_simp
        refine hK.out _ _ trivial (fun hHeld => ?_)
        clear hK K
        refine wpAnyH_done (by kernel_rfl) ?_ _
        refine ⟨HK2.out, ⟨(HC2.out.cell 0).trans (hc2.out.cell 0).symm, fun o => ((HC3.out.cell o).trans (hc3.out.cell o).symm)⟩, ⟨_, H2.out, ?_, trivial⟩, hbl.out.trans HB2.out, HC2.out, HC3.out⟩
        rw [List.length_append, List.length_singleton, ← HNX.out]
        exact HR2.out

      exact AllReadyH.nil

    exact AllReadyH.nil
  case done =>
    rintro D ys W hD hys ⟨⟨v, hv, hrow, -⟩, hbl, hc2, hc3⟩ hK
    have hc := hv.cell
    gi_wp2
    refine ⟨by simp, .inl ⟨_, _, rfl, run_takeDeferred hK, ?_⟩⟩
    have hyl : ys.length = N := by have := congrArg List.length hys; simpa using this
    have hvs : (ys.map fun x : {x : Nat // x < N} => Value.int .u64 (ofB (cutL xs (x.1 * 8) 8))) = (numsB xs N).map (Value.int .u64) := by
      unfold numsB
      rw [← hys, List.map_map, List.map_map]
      rfl
    rw [hyl, hvs] at hrow
    refine ⟨_, results_tmp rfl _ _ _, v, rfl, ?_, ?_⟩
    · rw [HH.out]; exact ownsRow_putObj hrow _ hK rfl
    · have xW : Ext w W := Below.trans xw5 (hbl.mono (by rw [HH.out]; exact Nat.le_refl _))
      exact xW.grown (grownBy_putObj' W D _) (fun k e => by injection e with e; have := HH.out; omega)
  case stop =>
    rintro D c pre W _ _ h _
    exact h.elim
end Go.Proofs.Yticabjdcegimcaa
