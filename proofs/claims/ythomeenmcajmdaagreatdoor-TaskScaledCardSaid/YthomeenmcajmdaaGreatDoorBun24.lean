import Derived.Test.YthomeenmcajmdaaGreatDoorCm3
import Derived.Test.YthomeenmcajmdaaGreatDoorCm4
import Derived.Test.YthomeenmcajmdaaGreatDoorCollect
import Derived.Test.YthomeenmcajmdaaGreatDoorBun23
import Derived.Test.YthomeenmcajmdaaGreatDoorFldP
import Derived.RangeFuncCalls
import Derived.Test.YthomeenmcajmdaaGreatDoorBun18
namespace Go.Proofs.YthomeenmcajmdaaGreatDoor
open Go.RowKit Go.Maps Go.Shelf
attribute [local go_sem] Oper.semAt_some
theorem results_cell_row_cell {P : Program} {fn : Func} {p q : Tmp} {ty ty2 : TypeId} (h : fn.results = #[.cell p ty, .cell q ty2]) (tmps : Array Value) (w : World) (g : Nat) (t : TypeId) (cs : Array Value) (fr : Nat × Nat) (d : TypeDesc)
    (hp : tmps.getD p undef = .pointer (some ⟨g, 0, none⟩)) (hg : w.heap[g]? = some (.cells cs t fr))
    (hu : P.underlying ty = some d) (hd : (match d with | .struct _ | .array _ _ => true | _ => false) = true) (hi : (P.info? ty).map (·.size) = some cs.size)
    (x : Value) (g2 : Nat) (hq : tmps.getD q undef = .pointer (some ⟨g2, 0, none⟩)) (hx : (loadVar ty2 ⟨g2, 0, none⟩).run P w = .ok x w) :
    (results fn tmps).run P w = .ok (.tuple #[.agg cs, x]) w := by
  have hp' : tmps[p]?.getD undef = .pointer (some ⟨g, 0, none⟩) := by simpa using hp
  have hq' : tmps[q]?.getD undef = .pointer (some ⟨g2, 0, none⟩) := by simpa using hq
  simp [results, h, hp', hq', asAddr, run_loadVar_row w g t ty cs fr d hg hu hd hi, hx, Result.andThen]
theorem load_errno {w : World} {g : Nat} {t : TypeId} {x : Value} (h : Blk w g t #[x]) : (loadVar 31 ⟨g, 0, none⟩).run Tryz.prog w = .ok x w := by
  have h1 : (isAgg 31).run Tryz.prog w = .ok false w := Tryz.isAgg31 w
  have h2 : w.cell? ⟨g, 0, none⟩ = some x := h.cell 0
  unfold loadVar
  simp only [Sem.run_bind, h1, Result.andThen_ok]
  simp [go_sem, h2]
theorem own_over {w w' : World} {base n : Nat} {e : TypeId} {v : Value} {xs : List Value} (h : w.ownsRow base e 1 v n xs) (hk : ∀ g, base ≤ g → (∃ cs t f, w.heap[g]? = some (.cells cs t f)) → w'.heap[g]? = w.heap[g]?) : w'.ownsRow base e 1 v n xs := by
  refine ⟨h.1, ?_⟩
  rcases h.2 with hn | ⟨g, cap, cur, rfl, hb, hg, r⟩
  · exact .inl hn
  · exact .inr ⟨g, cap, cur, rfl, hb, (hk g hb ⟨_, _, _, hg⟩).trans hg, r⟩
theorem UsL.of_own {w : World} {b n : Nat} {v : Value} {us : List Value} {ls : List (List Int)} (h : w.ownsRow b 24 1 v n us) (hl : ls.length = n) (hr : ∀ j, j < n → w.ownsRow b 22 1 (us.getD j undef) (ls.getD j []).length ((ls.getD j []).map (Value.int .u64))) : UsL w v ls := by
  subst hl
  obtain ⟨a, cap, rfl, -, h2, h3, h4⟩ := own_slice h
  refine ⟨a, cap, rfl, h2, h3, fun hp => ?_⟩
  obtain ⟨g, rfl, -, hg, hc⟩ := h4 hp
  exact ⟨g, 0, rfl, hg, fun j hj => ⟨_, by rw [Nat.zero_add]; exact hc j hj, own_ints (hr j hj)⟩⟩
theorem owns_from {w : World} {b b' n : Nat} {e : TypeId} {v : Value} {xs : List Value} (h : w.ownsRow b e 1 v n xs) (hb : b' ≤ b) : w.ownsRow b' e 1 v n xs := by
  refine ⟨h.1, ?_⟩
  rcases h.2 with hn | ⟨g, cap, cur, rfl, hg, r⟩
  · exact .inl hn
  · exact .inr ⟨g, cap, cur, rfl, Nat.le_trans hb hg, r⟩
def RetCupO (rows cols : List Int) (C U : List (List Int)) (w : World) (e : Ending) (w' : World) : Prop :=
  ∃ rv cv Cv Uv cs us, e = .returned (.tuple #[.agg #[rv, cv, Cv, Uv], .int .i64 0]) ∧ w'.ownsRow w.heap.size 3 1 rv rows.length (rows.map (Value.int .i64)) ∧ w'.ownsRow w.heap.size 3 1 cv cols.length (cols.map (Value.int .i64)) ∧
    w'.ownsRow w.heap.size 24 1 Cv C.length cs ∧ w'.ownsRow w.heap.size 24 1 Uv U.length us ∧ (∀ j, j < C.length → w'.ownsRow w.heap.size 22 1 (cs.getD j undef) (C.getD j []).length ((C.getD j []).map (Value.int .u64))) ∧
    (∀ j, j < U.length → w'.ownsRow w.heap.size 22 1 (us.getD j undef) (U.getD j []).length ((U.getD j []).map (Value.int .u64))) ∧ Ext w w'
theorem RetCupO.plain {rows cols : List Int} {C U : List (List Int)} {w w' : World} {e : Ending} (h : RetCupO rows cols C U w e w') : RetCup rows cols C U w e w' := by
  obtain ⟨rv, cv, Cv, Uv, cs, us, rfl, h1, h2, h3, h4, h5, h6, h7⟩ := h
  exact ⟨rv, cv, Cv, Uv, rfl, (owns_ints h1).choose_spec.choose_spec.2.2, (owns_ints h2).choose_spec.choose_spec.2.2, UsL.of_own h3 rfl h5, UsL.of_own h4 rfl h6, h7⟩
set_option maxRecDepth 100000 in
set_option maxHeartbeats 2000000 in
theorem cmTakeO (p : Int) (m n : Nat) (v : Value) (xs : List Int) (w : World) (ok : MatOk p m n xs) (hf : Fld p) (hv : Ints .u64 w v xs) : Calls Tryz.prog 43 #[.int .u64 p, matV m n v] w (RetCupO (profZ p m n xs) (colsZ (takeL p m n xs)) ((takeL p m n xs).C.map (padL (takeL p m n xs).U.length)) (takeL p m n xs).U w) := by
  have hp2 := rightB_true ok.hp
  have C1 := hid fun (W : World) (hW : Ext w W) => (callsIn_wide (n := 6)).2 (mxRight p m n v xs W (by omega) (by omega) (hv.ext hW) ok.u64)
  rw [ok.b] at C1
  have Ok := hid ok; have HF := hid hf
  have hm := ok.hm; have hn := ok.hn
  obtain ⟨a, cap, rfl, k1, k2, k3⟩ := hv
  obtain ⟨b, off, rfl, hb, k4⟩ := k3 ok.pos
  have K := hid k4
  have hl := ok.hl
  rw [hl] at k1
  unfold matV at C1
  rw [hl] at C1
  have C2 := hid fun (W : World) => (callsIn_wide (n := 6)).2 (chunk_any (some ⟨b, off, none⟩) (m * n) cap n hn.1 W)
  refine (callsIn_wide (n := 7)).1 ?_
  have f1 : Fence.wide.fn 78 := trivial
  have f2 : Fence.wide.fn 102 := trivial
  have f3 : Fence.wide.fn 27 := trivial
  have f4 : Fence.wide.fn 80 := trivial
  unfold matV
  rw [hl]
  clear k3 k4 ok hf hl
  have hb2 := hid (boxes2 w 26 58 #[.int .i64 (m : Int), .int .i64 (n : Int), .slice (some ⟨b, off, none⟩) (m * n) cap] #[.slice none 0 0, .slice none 0 0, .slice none 0 0, .slice none 0 0])
  refine callsIn_of_wp_marks Tryz.func43 rfl trivial ?_ rfl
  simp only [Tryz.ntmps43, List.size_toArray, List.length_cons, List.length_nil, Nat.reduceAdd, Nat.reduceSub, Array.replicate_succ, Array.replicate_zero, List.push_toArray, List.append_toArray, List.nil_append, List.cons_append]
  gi_wp2_with fail
  refine (C1.out _ ((((Ext.refl w).alloc _).alloc _).alloc _)).mono ?_
  rintro _ w1 ⟨rfl, x1⟩
  have hA1 := hid ((hb2.out.1.ext ((Ext.refl _).alloc (.cells #[.int .i64 0] 31))).ext x1)
  have hR1 := hid ((hb2.out.2.1.ext ((Ext.refl _).alloc (.cells #[.int .i64 0] 31))).ext x1)
  have hE1 := hid ((Blk.new ((w.alloc (.cells #[.int .i64 (m : Int), .int .i64 (n : Int), .slice (some ⟨b, off, none⟩) (m * n) cap] 26)).alloc (.cells #[.slice none 0 0, .slice none 0 0, .slice none 0 0, .slice none 0 0] 58)) 31 #[.int .i64 0]).ext x1)
  rw [alloc_size, alloc_size] at hE1
  obtain ⟨b0, b1, b2⟩ := hA1.out.at3
  have x2 := ((Ext.refl w1).alloc (.cells #[.slice none 0 0, .slice none 0 0, .slice none 0 0, .slice none 0 0, .int .u64 p, .slice none 0 0] 108))
  obtain ⟨e0, e1, e2⟩ := (hA1.out.ext x2).at3
  have hB2 := hid (Blk.new w1 108 #[.slice none 0 0, .slice none 0 0, .slice none 0 0, .slice none 0 0, .int .u64 p, .slice none 0 0])
  have hsz2 : (w1.alloc (.cells #[.slice none 0 0, .slice none 0 0, .slice none 0 0, .slice none 0 0, .int .u64 p, .slice none 0 0] 108)).heap.size = w1.heap.size + 1 := by simp
  gi_wp2_with fail
  refine (C2.out _).mono ?_
  rintro _ _ ⟨rfl, rfl⟩
  obtain ⟨w2, hw2⟩ : ∃ w2, w1.alloc (.cells #[.slice none 0 0, .slice none 0 0, .slice none 0 0, .slice none 0 0, .int .u64 p, .slice none 0 0] 108) = w2 := ⟨_, rfl⟩
  rw [hw2] at x2 e0 e1 e2 hB2 hsz2 ⊢
  clear hw2
  gi_wp2_with fail
  obtain ⟨H, hH⟩ : ∃ H, w.heap.size = H := ⟨_, rfl⟩
  obtain ⟨G, hG⟩ : ∃ G, w1.heap.size = G := ⟨_, rfl⟩
  have hs1 := x1.size
  simp only [World.size_alloc] at hs1
  obtain ⟨w5, hw5⟩ : ∃ w5, (w2.alloc (.cells #[.slice (some ⟨b, off, none⟩) (m * n) cap] 24)).alloc (.cells #[.int .i64 (n : Int)] 3) = w5 := ⟨_, rfl⟩
  have x5 : Ext w2 w5 := hw5 ▸ ((Ext.refl w2).alloc _).alloc _
  have hs5 : w5.heap.size = G + 3 := by rw [← hw5]; simp [hsz2, hG]
  have q1 : w5.cell? ⟨G + 1, 0, none⟩ = some (.slice (some ⟨b, off, none⟩) (m * n) cap) := by
    have := ((Blk.new w2 24 #[.slice (some ⟨b, off, none⟩) (m * n) cap]).ext ((Ext.refl _).alloc (.cells #[.int .i64 (n : Int)] 3))).cell 0
    rw [hw5, hsz2, hG] at this
    exact this
  have q2 : w5.cell? ⟨G + 1 + 1, 0, none⟩ = some (.int .i64 (n : Int)) := by
    have := (Blk.new (w2.alloc (.cells #[.slice (some ⟨b, off, none⟩) (m * n) cap] 24)) 3 #[.int .i64 (n : Int)]).cell 0
    rw [hw5, alloc_size, hsz2, hG] at this
    exact this
  rw [hH, hG]
  rw [hw5]
  rw [hH] at hA1 hR1 hE1 hs1
  rw [hG] at hB2 hs1
  have xw5 : Ext w w5 := ((((((Ext.refl w).alloc _).alloc _).alloc _).trans x1).trans x2).trans x5
  have hbH : b < H := by rw [← hH]; exact hb
  have hT0 := hid (show Tk w5 w5 w5 G p [] [] [] [] [] (.slice none 0 0) (.slice none 0 0) (.slice none 0 0) (.slice none 0 0) (.slice none 0 0) [] [] from ⟨hB2.out.ext x5, World.ownsRow_nil _ _ _ _, World.ownsRow_nil _ _ _ _, World.ownsRow_nil _ _ _ _, World.ownsRow_nil _ _ _ _, World.ownsRow_nil _ _ _ _, fun j hj => absurd hj (Nat.not_lt_zero _), fun j hj => absurd hj (Nat.not_lt_zero _), .inl rfl, .inl rfl, fun j hj => absurd hj (Nat.not_lt_zero _), fun j hj => absurd hj (Nat.not_lt_zero _), fun j k hj => absurd hj (Nat.not_lt_zero _), fun j k hj => absurd hj (Nat.not_lt_zero _), (Ext.refl w5).grownBy _, KeepsOthers.refl _⟩)
  have hst := chunk_stops_in Fence.wide 6 trivial rfl (by omega) (G + 1) (G + 1 + 1) b off (m * n) cap m n rfl hm.2 hn k1 w5 (by omega) (by omega) q1 q2
  refine wpIn_rangeFunc_ownF rfl (by omega) (gf := 102) (lb := #[.pointer (some ⟨G + 1, 0, none⟩), .pointer (some ⟨G + 1 + 1, 0, none⟩)]) rfl trivial (enters_of Tryz.func102 (by kernel_rfl) rfl)
    hst KeepsRow.trans (fun W l o o' hl _ _ _ => KeepsRow.put (n := w5.heap.size) (by omega) (by omega) W l o' hl) (Below.refl _ _) (fun _ => rfl)
    (fun pre W => ∃ st, takeE p n (fun i => rowOf n xs ((pre.map (·.1)).getD i 0)) pre.length = some st ∧ TkS w5 W W G p st)
    (fun _ _ _ => False)
    (fun pre W W' row ⟨st, h1, rv, cv, Cv, Uv, iv, cs, us, T⟩ hg hr => ⟨st, h1, rv, cv, Cv, Uv, iv, cs, us, T.own hg hr (KeepsOthers.refl _)⟩)
    (fun _ _ _ _ _ hs _ _ => hs)
    ⟨.nil, rfl, _, _, _, _, _, _, _, hT0.out⟩
    (fun x => { tmps := #[.int .u64 p, .agg #[.int .i64 (m : Int), .int .i64 (n : Int), .slice (some ⟨b, off, none⟩) (m * n) cap], undef, .pointer (some ⟨H, 0, none⟩), .pointer (some ⟨H + 1, 0, none⟩), .pointer (some ⟨H + 1 + 1, 0, none⟩), .pointer (some ⟨G, 0, none⟩), pieceV b off n x.1, undef, .int .u64 p,
      .agg #[.int .i64 (m : Int), .int .i64 (n : Int), .slice (some ⟨b, off, none⟩) (m * n) cap], .bool true, .bool false, undef, .int .u64 p, .agg #[.slice none 0 0, .slice none 0 0, .slice none 0 0, .slice none 0 0, .int .u64 p, .slice none 0 0], .pointer (some ⟨H, 2, none⟩), .slice (some ⟨b, off, none⟩) (m * n) cap, .pointer (some ⟨H, 1, none⟩), .int .i64 (n : Int),
      .func (.func 102) #[] #[.pointer (some ⟨G + 1, 0, none⟩), .pointer (some ⟨G + 1 + 1, 0, none⟩)], pieceV b off n x.1, undef, undef, undef, undef, undef, undef, undef, undef, undef, undef], defers := [] }) ?assign ?body ?done ?stop
  case assign =>
    intro l x W K hK
    gi_wp2
    exact hK
  case body =>
    rintro l pre ⟨x, hx⟩ W ⟨st, hst, rv, cv, Cv, Uv, iv, cs, us, T⟩ hlt
    have hgr := hid T.ext
    have hT : TkS w5 W W G p st := ⟨rv, cv, Cv, Uv, iv, cs, us, { T with ko := KeepsOthers.refl _ }⟩
    have hrr := rowOf_rng (n := n) hp2.1 Ok.out.hx x
    have hxn : ∀ j, j < n → x * n + j < m * n := fun j hj => at_lt hx hj
    have hpc : Ints .u64 W (pieceV b off n x) (rowOf n xs x) := by
      refine ⟨some ⟨b, off + x * n, none⟩, n, by rw [hrr.1]; rfl, by rw [hrr.1]; omega, by omega, fun _ => ⟨b, off + x * n, rfl, ?_, fun j hj => ?_⟩⟩
      · have := hgr.out.size; omega
      · rw [hrr.1] at hj
        rw [World.cell?_of_block (w := w5) (hgr.out.block b (by omega) (fun e => by injection e with e; omega)), xw5.cells _ _ hb, Nat.add_assoc, K.out _ (by rw [Ok.out.hl]; exact hxn j hj)]
        rw [rowOf, tab_get _ hj]
    have hvm : ((pre ++ [(⟨x, hx⟩ : {x : Nat // x < m})]).map (·.1)) = pre.map (·.1) ++ [x] := by rw [List.map_append]; rfl
    have hvl : (pre.map (·.1)).length = pre.length := List.length_map _
    obtain ⟨vs, evs⟩ : ∃ vs : List Nat, pre.map (·.1) = vs := ⟨_, rfl⟩
    rw [evs] at hvm hvl hst
    have hsome := takeE_some (p := p) (n := n) (R := fun i => rowOf n xs ((vs ++ [x]).getD i 0)) hp2.1 HF.out (pre.length + 1) (fun i _ => rowOf_rng hp2.1 Ok.out.hx _)
    obtain ⟨st', hst'⟩ := hsome
    have hcg : takeE p n (fun i => rowOf n xs ((vs ++ [x]).getD i 0)) pre.length = some st := by
      rw [← hst]
      exact takeE_congr _ fun i hi => by rw [getD_out (by rw [hvl]; exact hi)]
    have hs : stepE p n st pre.length (rowOf n xs x) = some st' := by
      have h1 := hst'
      rw [takeE, hcg] at h1
      have h2 : (vs ++ [x]).getD pre.length 0 = x := by rw [getD_snoc, if_neg (by omega), if_pos hvl.symm]
      rw [Option.bind_some, h2] at h1
      exact h1
    have hok := takeE_ok (n := n) (R := fun i => rowOf n xs (vs.getD i 0)) hp2.1 pre.length (fun i _ => rowOf_rng hp2.1 Ok.out.hx _) hst
    have cl := hid ((callsIn_wide (n := 4)).2 (clone_own _ (rowOf n xs x) W hpc (by rw [hrr.1]; omega)))
    have Hst' := hid hst'; have Hvm := hid hvm
    unfold pieceV at cl ⊢
    clear hpc hst hst' hcg hxn hvm hvl evs
    gi_wp2_with fail
    refine ⟨trivial, (CallsIn.inRound l cl.out).mono ?_⟩
    rintro _ w6 ⟨v6, rfl, ho6, x6⟩
    rw [hrr.1] at ho6
    obtain ⟨a6, c6, rfl, -, -, -, h6⟩ := own_slice ho6
    obtain ⟨b6, rfl, -, -, -⟩ := h6 (by omega)
    have ct := hid ((callsIn_wide (n := 4)).2 (cmTakeRow p n pre.length G b6 c6 w5 W W w6 st st' _ (rowOf n xs x) Ok.out.hp hn.1 hn.2 (by omega) hT hok x6 ho6 hrr.2 hs))
    clear h6
    gi_wp2_with fail
    refine ⟨trivial, (CallsIn.inRound l ct.out).mono ?_⟩
    rintro _ w7 ⟨rfl, rv', cv', Cv', Uv', iv', cs', us', T7⟩
    have hkp : KeepsRow (G + 1) (G + 1 + 1) W w7 := by
      have e : ∀ k, k < w5.heap.size → k ≠ G → ∀ o, w7.cell? ⟨k, o, none⟩ = W.cell? ⟨k, o, none⟩ := fun k hk hne o =>
        (World.cell?_of_block (a := ⟨k, o, none⟩) (T7.ext.block k hk (fun e => hne (by injection e with e)))).trans (World.cell?_of_block (a := ⟨k, o, none⟩) (hgr.out.block k hk (fun e => hne (by injection e with e)))).symm
      exact ⟨e _ (by omega) (by omega) 0, e _ (by omega) (by omega)⟩
    gi_wp2_with fail
    exact ⟨T7.ko, hkp, st', by rw [Hvm.out, List.length_append]; exact Hst'.out, rv', cv', Cv', Uv', iv', cs', us', { T7 with ko := KeepsOthers.refl _ }⟩
  case done =>
    rintro D ys W hD hys ⟨st, hst, rv, cv, Cv, Uv, iv, cs, us, T⟩ hK
    have hyl : ys.length = m := by have := congrArg List.length hys; simpa using this
    rw [hys, hyl] at hst
    have hst2 : takeE p n (rowOf n xs) m = some st := by rw [← hst]; exact takeE_congr m fun i hi => by simp [List.getD, hi]
    rw [takeL_some hp2.1 HF.out Ok.out.hx] at hst2
    injection hst2 with hst2
    have tok := takeL_ok (m := m) (n := n) hp2.1 HF.out Ok.out.hx
    have hpr : profZ p m n xs = rowsZ (takeL p m n xs) := rfl
    rw [hst2] at tok
    have Hst2 := hid hst2
    have hler := tok.le
    have lr : (rowsZ st).length = st.U.length := by have := tok.lr; simp [rowsZ]; omega
    have lk : (colsZ st).length = st.U.length := by have := tok.lk; simp [colsZ]; omega
    have cf := hid ((callsIn_wide (n := 6)).2 (cmFill p st.U.length m G w5 W W _ _ _ _ _ _ _ _ _ _ _ _ { T with ko := KeepsOthers.refl W } rfl tok.lc (by omega) hm.2 (fun j hj => (tok.cl j hj).1)))
    have hlC : (st.C.map (padL st.U.length)).length = m := by rw [List.length_map]; exact tok.lc
    have Tok := hid tok
    clear hst hst2 hys hyl tok T hpr
    gi_wp2_with fail
    refine cf.out.mono ?_
    rintro _ w8 ⟨rfl, cs', T8⟩
    have hR8 := hid ((hR1.out.ext (x2.trans x5)).grown T8.ext (fun e => by injection e with e; omega))
    have hE8 := hid (((hE1.out).ext (x2.trans x5)).grown T8.ext (fun e => by injection e with e; omega))
    have T8 := hid T8
    have o1 := T8.out.rows; have o2 := T8.out.cols; have o3 := T8.out.cc; have o4 := T8.out.uu
    rw [lr] at o1; rw [lk] at o2; rw [hlC] at o3
    obtain ⟨ar, cr, rfl, -, -, -, -⟩ := own_slice o1
    obtain ⟨ak, ck, rfl, -, -, -, -⟩ := own_slice o2
    obtain ⟨ac, cc, rfl, -, -, -, -⟩ := own_slice o3
    obtain ⟨au, cu, rfl, -, -, -, -⟩ := own_slice o4
    obtain ⟨b0, b1, b2, b3, b4, b5⟩ := T8.out.at6
    obtain ⟨r0, r1, r2, r3⟩ := hR8.out.at4
    have s0 := hR8.out.frozen 0; have s1 := hR8.out.frozen 1; have s2 := hR8.out.frozen 2; have s3 := hR8.out.frozen 3
    have t0 := hE8.out.cell 0; have u0 := hE8.out.frozen 0
    clear o1 o2 o3 o4
    gi_wp2_with fail
    clear b0 b1 b2 b3 b4 b5 r0 r1 r2 r3 s0 s1 s2 s3 t0 u0
    have h1 := (((hR8.out.set_ 0 (.slice ar st.U.length cr)).set_ 1 (.slice ak st.U.length ck)).set_ 2 (.slice ac m cc)).set_ 3 (.slice au st.U.length cu)
    have h2 := h1.grown (setCell_grown _ ⟨H + 1 + 1, 0, none⟩ (.int .i64 0)) (by simp)
    have h3 := ((((hE8.out.grown (setCell_grown _ ⟨H + 1, 0, none⟩ (.slice ar st.U.length cr)) (by simp)).grown (setCell_grown _ ⟨H + 1, 1, none⟩ (.slice ak st.U.length ck)) (by simp)).grown (setCell_grown _ ⟨H + 1, 2, none⟩ (.slice ac m cc)) (by simp)).grown (setCell_grown _ ⟨H + 1, 3, none⟩ (.slice au st.U.length cu)) (by simp)).set_ 0 (.int .i64 0)
    have ko := ((((T8.out.ko.trans (KeepsOthers.setCell _ ⟨H + 1, 0, none⟩ (.slice ar st.U.length cr))).trans (KeepsOthers.setCell _ ⟨H + 1, 1, none⟩ (.slice ak st.U.length ck))).trans (KeepsOthers.setCell _ ⟨H + 1, 2, none⟩ (.slice ac m cc))).trans (KeepsOthers.setCell _ ⟨H + 1, 3, none⟩ (.slice au st.U.length cu))).trans (KeepsOthers.setCell _ ⟨H + 1 + 1, 0, none⟩ (.int .i64 0))
    have hK9 := ko.same D _ hK rfl
    have hHH : w.heap.size ≤ H + 1 := by omega
    have hHH2 : w.heap.size ≤ H + 1 + 1 := by omega
    have hE9 := (((((grown_ext T8.out.ext xw5 (by omega)).setCell (p := ⟨H + 1, 0, none⟩) hHH (.slice ar st.U.length cr)).setCell (p := ⟨H + 1, 1, none⟩) hHH (.slice ak st.U.length ck)).setCell (p := ⟨H + 1, 2, none⟩) hHH (.slice ac m cc)).setCell (p := ⟨H + 1, 3, none⟩) hHH (.slice au st.U.length cu)).setCell (p := ⟨H + 1 + 1, 0, none⟩) hHH2 (.int .i64 0)
    have hb9 : ∀ k, k ≠ H + 1 → k ≠ H + 1 + 1 → (((((w8.setCell ⟨H + 1, 0, none⟩ (.slice ar st.U.length cr)).setCell ⟨H + 1, 1, none⟩ (.slice ak st.U.length ck)).setCell ⟨H + 1, 2, none⟩ (.slice ac m cc)).setCell ⟨H + 1, 3, none⟩ (.slice au st.U.length cu)).setCell ⟨H + 1 + 1, 0, none⟩ (.int .i64 0)).heap[k]? = w8.heap[k]? := fun k n1 n2 => by
      rw [heap_setCell_other _ _ _ _ (show k ≠ (⟨H + 1 + 1, 0, none⟩ : Addr).block from n2), heap_setCell_other _ _ _ _ (show k ≠ (⟨H + 1, 3, none⟩ : Addr).block from n1), heap_setCell_other _ _ _ _ (show k ≠ (⟨H + 1, 2, none⟩ : Addr).block from n1), heap_setCell_other _ _ _ _ (show k ≠ (⟨H + 1, 1, none⟩ : Addr).block from n1), heap_setCell_other _ _ _ _ (show k ≠ (⟨H + 1, 0, none⟩ : Addr).block from n1)]
    obtain ⟨w9, hw9⟩ : ∃ w9, ((((w8.setCell ⟨H + 1, 0, none⟩ (.slice ar st.U.length cr)).setCell ⟨H + 1, 1, none⟩ (.slice ak st.U.length ck)).setCell ⟨H + 1, 2, none⟩ (.slice ac m cc)).setCell ⟨H + 1, 3, none⟩ (.slice au st.U.length cu)).setCell ⟨H + 1 + 1, 0, none⟩ (.int .i64 0) = w9 := ⟨_, rfl⟩
    rw [hw9] at h2 h3 hK9 hE9 hb9 ⊢
    have hov : ∀ g, w5.heap.size ≤ g → (∃ cs t f, w8.heap[g]? = some (.cells cs t f)) → (w9.putObj D (.deferred none)).heap[g]? = w8.heap[g]? := fun g hg ⟨cs, t, f, hc⟩ => by
      have hne : g ≠ D := fun e => by
        have h := T8.out.ko.same D _ hK rfl
        rw [← e, hc] at h; cases h
      rw [World.putObj_heap_other hne]
      exact hb9 g (by omega) (by omega)
    have q1 := own_over T8.out.rows hov
    have q2 := own_over T8.out.cols hov
    have q3 := own_over T8.out.cc hov
    have q4 := own_over T8.out.uu hov
    have q5 := fun j hj => own_over (T8.out.crow j hj) hov
    have q6 := fun j hj => own_over (T8.out.urow j hj) hov
    have hx9 : Ext w (w9.putObj D (.deferred none)) := hE9.grown (grownBy_putObj' w9 D _) (fun k e => by injection e with e; omega)
    have hDH : D ≠ H + 1 := by omega
    have hDH2 : D ≠ H + 1 + 1 := by omega
    have h2' : Blk (w9.putObj D (.deferred none)) (H + 1) 58 #[.slice ar st.U.length cr, .slice ak st.U.length ck, .slice ac m cc, .slice au st.U.length cu] := (World.putObj_heap_other (fun e => hDH e.symm)).trans h2
    have h3' : Blk (w9.putObj D (.deferred none)) (H + 1 + 1) 31 #[.int .i64 0] := (World.putObj_heap_other (fun e => hDH2 e.symm)).trans h3
    refine ⟨by simp, .inl ⟨_, _, rfl, run_takeDeferred hK9, ?_⟩⟩
    refine ⟨_, results_cell_row_cell rfl _ _ (H + 1) 58 _ (0, 0) _ rfl h2' Tryz.underlying58 rfl (by kernel_rfl) (.int .i64 0) (H + 1 + 1) rfl (load_errno h3'), ?_⟩
    have hb5 : w.heap.size ≤ w5.heap.size := by omega
    rw [hlC] at q3
    refine ⟨_, _, _, _, cs', us, rfl, ?_, ?_, ?_, ?_, ?_, ?_, hx9⟩
    all_goals (obtain rfl := Hst2.out)
    · exact owns_from q1 hb5
    · exact owns_from q2 hb5
    · rw [hlC]; exact owns_from q3 hb5
    · exact owns_from q4 hb5
    · exact fun j hj => owns_from (q5 j hj) hb5
    · exact fun j hj => owns_from (q6 j hj) hb5
  case stop =>
    rintro D c pre W _ _ h _
    exact h.elim
theorem cmTake (p : Int) (m n : Nat) (v : Value) (xs : List Int) (w : World) (ok : MatOk p m n xs) (hf : Fld p) (hv : Ints .u64 w v xs) : Calls Tryz.prog 43 #[.int .u64 p, matV m n v] w (RetCup (profZ p m n xs) (colsZ (takeL p m n xs)) ((takeL p m n xs).C.map (padL (takeL p m n xs).U.length)) (takeL p m n xs).U w) :=
  (cmTakeO p m n v xs w ok hf hv).mono fun _ _ h => h.plain
end Go.Proofs.YthomeenmcajmdaaGreatDoor
namespace Go.Proofs.YthomeenmcajmdaaGreatDoor
open Go.RowKit Go.Maps
set_option maxHeartbeats 1000000 in
theorem cmRank (p : Int) (m n : Nat) (v : Value) (xs : List Int) (w : World) (ok : MatOk p m n xs) (hf : Fld p) (hv : Ints .u64 w v xs) : Calls Tryz.prog 19 #[.int .u64 p, matV m n v] w (Ret (.tuple #[.int .i64 (takeL p m n xs).U.length, .int .i64 0]) w) := by
  have C := hid fun (W : World) (hW : Ext w W) => cmTake p m n v xs W ok hf (hv.ext hW)
  have hl := profZ_len ok hf
  obtain ⟨st, est⟩ : ∃ st, takeL p m n xs = st := ⟨_, rfl⟩
  obtain ⟨pr, epr⟩ : ∃ pr, profZ p m n xs = pr := ⟨_, rfl⟩
  rw [est, epr] at C hl
  rw [est]
  have hst := takeL_ok (m := m) (n := n) (rightB_true ok.hp).1 hf ok.hx
  have hU : st.U.length ≤ 64 := by rw [← est]; have := hst.le; have := ok.hm; omega
  have Hl := hid hl
  unfold matV at C ⊢
  clear hv ok est epr hst hl
  go_enter Tryz.func19, Tryz.ntmps19
  go_wp2_with (go_at_call 43; refine (C.out _ (by repeat (first | exact Ext.refl _ | assumption | refine Ext.drew ?_ | refine Ext.drewN ?_ _ | refine Ext.alloc ?_ _ | refine Ext.trans ?_ (by assumption)))).mono ?_; rintro _ w1 ⟨rv, cv, Cv, Uv, rfl, h1, h2, h3, h4, x1⟩
               obtain ⟨ar, cr, rfl, -, -, -⟩ := h1
               rw [Hl.out]
               obtain ⟨ac, cc, rfl, -, -, -⟩ := h2
               obtain ⟨aC, cC, rfl, -, -, -⟩ := h3
               obtain ⟨aU, cU, rfl, -, -, -⟩ := h4)
  go_ret2
  exact ⟨rfl, (by repeat (first | exact Ext.refl _ | assumption | refine Ext.drew ?_ | refine Ext.drewN ?_ _ | refine Ext.alloc ?_ _ | refine Ext.trans ?_ (by assumption)))⟩
set_option maxHeartbeats 1000000 in
theorem cmProfile (p : Int) (m n : Nat) (v : Value) (xs : List Int) (w : World) (ok : MatOk p m n xs) (hf : Fld p) (hv : Ints .u64 w v xs) : Calls Tryz.prog 89 #[.int .u64 p, matV m n v] w (RetVI (profZ p m n xs) w) := by
  have C := hid fun (W : World) (hW : Ext w W) => cmTake p m n v xs W ok hf (hv.ext hW)
  obtain ⟨st, est⟩ : ∃ st, takeL p m n xs = st := ⟨_, rfl⟩
  obtain ⟨pr, epr⟩ : ∃ pr, profZ p m n xs = pr := ⟨_, rfl⟩
  rw [est, epr] at C
  rw [epr]
  unfold matV at C ⊢
  clear hv ok est epr
  go_enter Tryz.func89, Tryz.ntmps89
  go_wp2_with (go_at_call 43; refine (C.out _ (by repeat (first | exact Ext.refl _ | assumption | refine Ext.drew ?_ | refine Ext.drewN ?_ _ | refine Ext.alloc ?_ _ | refine Ext.trans ?_ (by assumption)))).mono ?_; rintro _ w1 ⟨rv, cv, Cv, Uv, rfl, h1, h2, h3, h4, x1⟩
               have H1 := hid h1
               obtain ⟨ar, cr, rfl, -, -, -⟩ := h1
               obtain ⟨ac, cc, rfl, -, -, -⟩ := h2
               obtain ⟨aC, cC, rfl, -, -, -⟩ := h3
               obtain ⟨aU, cU, rfl, -, -, -⟩ := h4)
  go_ret2
  exact ⟨_, rfl, H1.out.ext (by repeat (first | exact Ext.refl _ | assumption | refine Ext.drew ?_ | refine Ext.drewN ?_ _ | refine Ext.alloc ?_ _ | refine Ext.trans ?_ (by assumption))), (by repeat (first | exact Ext.refl _ | assumption | refine Ext.drew ?_ | refine Ext.drewN ?_ _ | refine Ext.alloc ?_ _ | refine Ext.trans ?_ (by assumption)))⟩
theorem neg_mod (p x : Int) : (0 - x % p) % p = (x * -1) % p := by
  rw [ms_r]
  congr 1
  omega
set_option maxRecDepth 100000 in
set_option maxHeartbeats 1000000 in
theorem cmDet_yes (p : Int) (n : Nat) (v : Value) (xs : List Int) (w : World) (ok : MatOk p n n xs) (hf : Fld p) (hv : Ints .u64 w v xs) : Calls Tryz.prog 87 #[.int .u64 p, matV n n v] w (Ret (.tuple #[.int .u64 (detF n (atF n xs) % p), .int .i64 0]) w) := by
  have hp2 := rightB_true ok.hp
  have C := hid fun (W : World) (hW : Ext w W) => cmTake p n n v xs W ok hf (hv.ext hW)
  have hlc := colsZ_len ok hf
  have hlr := profZ_len ok hf
  have hst := takeL_ok (m := n) (n := n) hp2.1 hf ok.hx
  have hd := hst.det (hf.has hp2.1)
  rw [rowsF_det] at hd
  have hn := ok.hm
  obtain ⟨D, eD⟩ : ∃ D, detF n (atF n xs) % p = D := ⟨_, rfl⟩
  rw [eD] at hd
  rw [eD]
  obtain ⟨st, est⟩ : ∃ st, takeL p n n xs = st := ⟨_, rfl⟩
  obtain ⟨pr, epr⟩ : ∃ pr, profZ p n n xs = pr := ⟨_, rfl⟩
  rw [est] at C hlc hlr hst hd
  rw [epr] at C hlr
  obtain ⟨CP, eCP⟩ : ∃ CP, st.C.map (padL st.U.length) = CP := ⟨_, rfl⟩
  rw [eCP] at C
  have HP := hid ok.hp; have Hst := hid hst
  obtain ⟨r, er⟩ : ∃ r, st.U.length = r := ⟨_, rfl⟩
  rw [er] at hlc hlr
  have hrn : r ≤ n := by rw [← er]; exact hst.le
  have Hlc := hid hlc; have Hlr := hid hlr; have Er := hid er
  obtain ⟨a, cap, rfl, k1, k2, k3⟩ := hv
  unfold detE at hd
  rw [er] at hd
  unfold matV at C ⊢
  by_cases hlt : r < n
  · rw [if_pos hlt, Int.zero_emod] at hd
    subst hd
    clear k3 ok est epr hst hlc hlr er eD eCP
    go_enter Tryz.func87, Tryz.ntmps87
    go_wp2_with (go_at_call 43; refine (C.out _ (by repeat (first | exact Ext.refl _ | assumption | refine Ext.drew ?_ | refine Ext.drewN ?_ _ | refine Ext.alloc ?_ _ | refine Ext.trans ?_ (by assumption)))).mono ?_; rintro _ w1 ⟨rv, cv, Cv, Uv, rfl, h1, h2, h3, h4, x1⟩
                 obtain ⟨ar, cr, rfl, -, -, -⟩ := h1
                 rw [Hlr.out]
                 obtain ⟨ac, cc, rfl, -, -, -⟩ := h2
                 rw [Hlc.out]
                 obtain ⟨aC, cC, rfl, -, -, -⟩ := h3
                 obtain ⟨aU, cU, rfl, -, -, -⟩ := h4
                 rw [Er.out]
                 obtain ⟨b0, b1, b2⟩ := ((Blk.new w 26 #[.int .i64 (n : Int), .int .i64 (n : Int), .slice a xs.length cap]).ext x1).at3
                 obtain ⟨d0, d1, d2⟩ := ((Blk.new w 26 #[.int .i64 (n : Int), .int .i64 (n : Int), .slice a xs.length cap]).ext (x1.alloc (.cells #[.slice ar r cr, .slice ac r cc, .slice aC CP.length cC, .slice aU r cU] 58))).at3)
    go_ret2
    exact ⟨rfl, (by repeat (first | exact Ext.refl _ | assumption | refine Ext.drew ?_ | refine Ext.drewN ?_ _ | refine Ext.alloc ?_ _ | refine Ext.trans ?_ (by assumption)))⟩
  · obtain rfl : r = n := by omega
    rw [if_neg hlt] at hd
    have hsgn := hid (qmSign)
    have hord := hst.cols_ord er
    have hob := hord.b (by omega) hn.2
    have S := hid fun (W : World) (u : Value) (hu : Ints .i64 W u (colsZ st)) => qmSign u (colsZ st) W hu
    simp only [hob, if_true] at S
    obtain ⟨sg, esg⟩ : ∃ sg, sgnL (colsZ st) = sg := ⟨_, rfl⟩
    have hsg : sg = 1 ∨ sg = -1 := esg ▸ sgn_or _
    rw [esg] at S hd
    obtain ⟨d, ed⟩ : ∃ d : Nat → Int, (fun k => (st.U.getD k []).getD (st.cols.getD k 0) 0) = d := ⟨_, rfl⟩
    rw [ed] at hd
    have hD := hid hd
    have hdr := hid fun (k : Nat) (hk : k < r) => (show d k = (st.U.getD k []).getD (st.cols.getD k 0) 0 ∧ 0 ≤ d k ∧ d k < p ∧ st.cols.getD k 0 < r ∧ (st.U.getD k []).length = r from by
      have h := hst.row k (by rw [er]; exact hk)
      refine ⟨(congrFun ed k).symm, ?_, ?_, h.2.2.1, h.1⟩
      · rw [← ed]; exact (h.2.1.getD hp2.1 _).1
      · rw [← ed]; exact (h.2.1.getD hp2.1 _).2)
    have hDr := mod_range (detF r (atF r xs)) hp2.1
    rw [eD] at hDr
    obtain ⟨KZ, eKZ⟩ : ∃ KZ, colsZ st = KZ := ⟨_, rfl⟩
    have hKZ := hid fun (k : Nat) (hk : k < r) => (show KZ.getD k 0 = (st.cols.getD k 0 : Int) from by
      have := hst.lk
      rw [← eKZ]; unfold colsZ
      rw [List.getD, List.getElem?_map, List.getElem?_eq_getElem (show k < st.cols.length by omega)]
      simp [List.getD, show k < st.cols.length by omega])
    rw [eKZ] at C S Hlc
    obtain ⟨UU, eUU⟩ : ∃ UU, st.U = UU := ⟨_, rfl⟩
    rw [eUU] at C hdr Er
    obtain ⟨cl, ecl⟩ : ∃ cl : Nat → Nat, (fun k => st.cols.getD k 0) = cl := ⟨_, rfl⟩
    have hcl := hid fun k => (congrFun ecl k : st.cols.getD k 0 = cl k)
    have h1p : (1 : Int) % p = 1 := Int.emod_eq_of_lt (by omega) (by omega)
    have H1p := hid h1p
    clear k3 ok est epr hst hlc hlr er eD eCP hord hob esg ed hd eKZ eUU ecl hlt Hst h1p hsgn
    go_enter Tryz.func87, Tryz.ntmps87
    go_wp2_with (go_at_call 43; refine (C.out _ (by repeat (first | exact Ext.refl _ | assumption | refine Ext.drew ?_ | refine Ext.drewN ?_ _ | refine Ext.alloc ?_ _ | refine Ext.trans ?_ (by assumption)))).mono ?_; rintro _ w1 ⟨rv, cv, Cv, Uv, rfl, h1, h2, h3, h4, x1⟩
                 have I2 := hid h2; have I4 := hid h4
                 obtain ⟨ar, cr, rfl, -, -, -⟩ := h1
                 rw [Hlr.out]
                 obtain ⟨ac, cc, rfl, -, -, K2⟩ := h2
                 rw [Hlc.out] at K2 I2 ⊢
                 obtain ⟨aC, cC, rfl, -, -, -⟩ := h3
                 obtain ⟨aU, cU, rfl, -, -, K4⟩ := h4
                 rw [Er.out] at K4 I4 ⊢
                 have K2 := hid K2; have K4 := hid K4
                 have hB := hid (Blk.new w1 58 #[.slice ar r cr, .slice ac r cc, .slice aC CP.length cC, .slice aU r cU])
                 obtain ⟨b0, b1, b2⟩ := ((Blk.new w 26 #[.int .i64 (r : Int), .int .i64 (r : Int), .slice a xs.length cap]).ext x1).at3
                 have x2 := x1.alloc (.cells #[.slice ar r cr, .slice ac r cc, .slice aC CP.length cC, .slice aU r cU] 58)
                 obtain ⟨d0, d1, d2⟩ := ((Blk.new w 26 #[.int .i64 (r : Int), .int .i64 (r : Int), .slice a xs.length cap]).ext x2).at3)
    obtain ⟨w2, hw2⟩ : ∃ w2, w1.alloc (.cells #[.slice ar r cr, .slice ac r cc, .slice aC CP.length cC, .slice aU r cU] 58) = w2 := ⟨_, rfl⟩
    have y2 : Ext w1 w2 := hw2 ▸ (Ext.refl w1).alloc _
    rw [hw2] at hB x2 ⊢
    clear hw2 b0 b1 b2 d0 d1 d2
    obtain ⟨G, eG⟩ : ∃ G, w1.heap.size = G := ⟨_, rfl⟩
    rw [eG] at hB ⊢
    clear eG
    go_loopw [38, 8] (fun kv pv wr => ∃ (k : Nat) (q : Int), kv = .int .i64 k ∧ pv = .int .u64 q ∧ k ≤ r ∧ Hid (q = prN k d % p) ∧ Ext w2 wr) (fun kv _ _ => r - (intOf kv).toNat)
    case atStart => exact ⟨0, 1, rfl, rfl, Nat.zero_le _, hid H1p.out.symm, Ext.refl _⟩
    case round =>
      obtain ⟨k, q, rfl, rfl, hk, hq, hxr⟩ := hrel
      obtain ⟨b0, b1, b2, b3⟩ := (hB.out.ext hxr).at4
      by_cases hlk : k < r
      · obtain ⟨bk, fk, rfl, hbk, q2⟩ := K2.out (by omega)
        replace q2 := ((y2.trans hxr).cells _ _ hbk).trans (q2 k hlk)
        rw [hKZ.out k hlk, hcl.out] at q2
        obtain ⟨bu, fu, rfl, hbu, q4⟩ := K4.out (by omega)
        replace q4 := q4 k hlk
        obtain ⟨u, q4, iu⟩ := q4
        replace q4 := ((y2.trans hxr).cells _ _ hbu).trans q4
        replace iu := iu.ext (y2.trans hxr)
        obtain ⟨e1, e2, e3, e4, e5⟩ := hdr.out k hlk
        rw [hcl.out] at e1 e4
        obtain ⟨au, cu, rfl, -, -, k5⟩ := iu
        rw [e5] at q4 k5
        obtain ⟨br, fr, rfl, hbr, q6⟩ := k5 (by omega)
        replace q6 := q6 (cl k) e4
        rw [← e1] at q6
        have hqr := mod_range (prN k d) hp2.1
        rw [← hq.out] at hqr
        have hnx : q * d k % p = prN (k + 1) d % p := by rw [hq.out, Int.mul_emod, Int.emod_emod, ← Int.mul_emod]; rfl
        obtain ⟨z, ez⟩ : ∃ z, d k = z := ⟨_, rfl⟩
        rw [ez] at q6 e2 e3 hnx
        obtain ⟨t, et⟩ : ∃ t, prN (k + 1) d % p = t := ⟨_, rfl⟩
        rw [et] at hnx
        obtain ⟨y, ey⟩ : ∃ y, cl k = y := ⟨_, rfl⟩
        rw [ey] at q2 q6 e4
        have Hnx := hid hnx; have Et := hid et
        clear hnx et ez ey e1 e5 k5 hbr hbu hbk
        go_wp2_with (go_at_call 103; refine (mul_as p q z t _ HP.out hqr.1 hqr.2 e2 e3 Hnx.out).mono ?_; rintro _ w5 ⟨rfl, x5⟩)
        go_roundw
        case rel => exact ⟨k + 1, t, by go_num, rfl, by omega, hid Et.out.symm, hxr.trans x5⟩
        case measure => simp [intOf]; omega
      · obtain rfl : r = k := by omega
        have hqr := mod_range (prN r d) hp2.1
        rw [← hq.out] at hqr
        rcases hsg with rfl | rfl
        · have hq2 := hid (show q = D by rw [hD.out, hq.out, Int.mul_one])
          go_wp2_with (go_at_call 112; refine (S.out _ _ (I2.out.ext (y2.trans hxr))).mono ?_; rintro _ w3 ⟨rfl, x3⟩)
          go_ret2
          exact ⟨ret_int2 hq2.out rfl, (by repeat (first | exact Ext.refl _ | assumption | refine Ext.drew ?_ | refine Ext.drewN ?_ _ | refine Ext.alloc ?_ _ | refine Ext.trans ?_ (by assumption)))⟩
        · have hq2 := hid (show (0 - q) % p = D by rw [hD.out, hq.out, neg_mod])
          go_wp2_with (first
            | (go_at_call 112; refine (S.out _ _ (I2.out.ext (y2.trans hxr))).mono ?_; rintro _ w3 ⟨rfl, x3⟩)
            | (go_at_call 113; refine (sub_as p 0 q D _ HP.out (by omega) (by omega) hqr.1 hqr.2 hq2.out).mono ?_; rintro _ w4 ⟨rfl, x4⟩))
          go_ret2
          exact ⟨rfl, (by repeat (first | exact Ext.refl _ | assumption | refine Ext.drew ?_ | refine Ext.drewN ?_ _ | refine Ext.alloc ?_ _ | refine Ext.trans ?_ (by assumption)))⟩
end Go.Proofs.YthomeenmcajmdaaGreatDoor
