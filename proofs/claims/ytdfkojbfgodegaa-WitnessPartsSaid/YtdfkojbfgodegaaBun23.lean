/- What the texts Sv9, SvN, SvC, WtF show, in one text. -/
import Derived.Test.YtdfkojbfgodegaaBun22
import Derived.Test.YtdfkojbfgodegaaBun19
import Derived.Test.YtdfkojbfgodegaaCollect
import Derived.Test.YtdfkojbfgodegaaBun09
import Derived.RangeFuncCalls
import Derived.Maps.OwnIn
import Derived.Test.YtdfkojbfgodegaaBun16
import Derived.Test.YtdfkojbfgodegaaBun20
import Derived.Test.YtdfkojbfgodegaaBun11
import Derived.Test.YtdfkojbfgodegaaBun13
/- Package solve: Inverse. -/
namespace Go.Proofs.Ytdfkojbfgodegaa
open Go.RowKit Go.Maps Go.Shelf

attribute [local go_sem] Oper.semAt_some

/-- a matrix's column -/
def colOf (n : Nat) (us : List Int) (k : Nat) : List Int := tab n fun j => us.getD (j * n + k) 0
theorem flat_len (n : Nat) (f : Nat → List Int) (hf : ∀ k, (f k).length = n) : ∀ L : List Nat, ((L.map f).flatten).length = L.length * n
  | [] => by simp
  | a :: L => by rw [List.map_cons, List.flatten_cons, List.length_append, flat_len n f hf L, hf, List.length_cons, Nat.succ_mul, Nat.add_comm]
theorem flat_get (n : Nat) (f : Nat → List Int) (hf : ∀ k, (f k).length = n) : ∀ (L : List Nat) (k j : Nat), k < L.length → j < n → ((L.map f).flatten).getD (k * n + j) 0 = (f (L.getD k 0)).getD j 0
  | [], _, _, h, _ => absurd h (Nat.not_lt_zero _)
  | a :: L, 0, j, _, hj => by
    rw [List.map_cons, List.flatten_cons, Nat.zero_mul, Nat.zero_add]
    simp only [List.getD, List.getElem?_append, hf, hj, if_true, List.getElem?_cons_zero, Option.getD_some]
  | a :: L, k + 1, j, h, hj => by
    have := flat_get n f hf L k j (by simpa using h) hj
    rw [List.map_cons, List.flatten_cons, List.getD_cons_succ, ← this]
    have h1 : ¬ (k + 1) * n + j < n := by rw [Nat.succ_mul]; omega
    have h2 : (k + 1) * n + j - n = k * n + j := by rw [Nat.succ_mul]; omega
    simp only [List.getD, List.getElem?_append, hf, h1, if_false, h2]
theorem IsInv.col {p : Int} {n : Nat} {xs us : List Int} (ok : MatOk p n n xs) (hf : Fld p) (hr : (takeL p n n xs).U.length = n) (h : IsInv p n xs us) {k : Nat} (hk : k < n) : IsX p n n xs (rowOf n (oneL n) k) (colOf n us k) := by
  have hp := (rightB_true ok.hp).1
  have ho := takeL_ok (m := n) (n := n) hp hf ok.hx
  have hfc := (freeC_lt (n := n) ho.cols_nodup fun c hc => ho.cols_lt hc)
  rw [ho.lk, hr] at hfc
  have hge : n ≤ freeC n (takeL p n n xs).cols := Nat.le_of_not_lt fun hlt => by have := hfc.1 hlt; omega
  refine ⟨tab_len _ _, tab_rng fun _ _ => h.rng.getD hp _, ?_, fun j hj hc => absurd (freeC_low (n := n) (by omega)) hc⟩
  refine list_ext (by rw [timesL_len]; exact (tab_len _ _).symm) fun i hi => ?_
  rw [timesL_len] at hi
  rw [times_get hi]
  have h1 := congrArg (fun l : List Int => l.getD (i * n + k) 0) h.one
  simp only [mulL, oneL] at h1
  rw [grid_get _ hi hk, grid_get _ hi hk] at h1
  have h2 : (rowOf n (oneL n) k).getD i 0 = if k = i then 1 else 0 := by
    rw [rowOf, tab_get _ hi, oneL, grid_get _ hk hi]
  rw [h2, show (if k = i then (1 : Int) else 0) = if i = k then 1 else 0 by
    by_cases e : i = k
    · rw [if_pos e, if_pos e.symm]
    · rw [if_neg e, if_neg fun h => e h.symm], ← h1]
  unfold dv appF
  refine congrArg (· % p) (sm_congr fun j hj => ?_)
  show (rowOf n xs i).getD j 0 * (colOf n us k).getD j 0 = xs.getD (i * n + j) 0 * us.getD (j * n + k) 0
  rw [show (rowOf n xs i).getD j 0 = xs.getD (i * n + j) 0 from tab_get _ hj, show (colOf n us k).getD j 0 = us.getD (j * n + k) 0 from tab_get _ hj]
theorem cols_turn {n : Nat} {us : List Int} : ((List.range n).map (colOf n us)).flatten = turnL n n us := by
  refine grid_of (by rw [flat_len n (colOf n us) fun k => tab_len _ _, List.length_range]) fun k j hk hj => ?_
  rw [flat_get n (colOf n us) (fun k => tab_len _ _) _ _ _ (by rw [List.length_range]; exact hk) hj]
  have : (List.range n).getD k 0 = k := by simp [List.getD, hk]
  rw [this]
  exact tab_get _ hj
/-- columns that are gathered: the matrix's box and its row -/
structure InvS (wL W : World) (G n : Nat) (tv : Value) (l : List Int) : Prop where
  box : Blk W G 25 #[.int .i64 (n : Int), .int .i64 (n : Int), tv]
  row : W.ownsRow wL.heap.size 22 1 tv l.length (l.map (Value.int .u64))
  ext : wL.grownBy W (some G)
  lt : G < wL.heap.size
theorem InvS.ext' {wL W W' : World} {G n : Nat} {tv : Value} {l : List Int} (h : InvS wL W G n tv l) (x : Ext W W') : InvS wL W' G n tv l :=
  ⟨h.box.ext x, ownsRow_ext h.row x, h.ext.trans (x.grownBy _), h.lt⟩
theorem InvS.own {wL W W' : World} {G n : Nat} {tv : Value} {l : List Int} (h : InvS wL W G n tv l) {row : Option Nat} (hg : W.grownBy W' row) (hr : ∀ r, row = some r → wL.heap.size ≤ r ∧ ∃ o : Obj, W.heap[r]? = some o ∧ o.isCells = false) : InvS wL W' G n tv l :=
  ⟨h.box.grown hg (fun e => by have := (hr G e).1; have := h.lt; omega), h.row.kept hg (by
    rcases h.row.2 with ⟨rfl, _⟩ | ⟨g, cap, cur, rfl, _, hb, _⟩
    · exact .inl rfl
    · refine .inr fun e => ?_
      obtain ⟨_, o, ho, hc⟩ := hr g (by rw [← e]; rfl)
      rw [hb] at ho
      cases ho; cases hc), grown_new h.ext hg fun q e => (hr q e).1, h.lt⟩
/-- a column is put behind -/
theorem InvS.put {wL W W' : World} {G n : Nat} {tv tv' : Value} {l x : List Int} (h : InvS wL W G n tv l) (hown : W'.ownsRow wL.heap.size 22 1 tv' (l.length + x.length) (l.map (Value.int .u64) ++ x.map (Value.int .u64))) (hg : W.grownBy W' tv.ownBlock) :
    InvS wL (W'.setCell ⟨G, 2, none⟩ tv') G n tv' (l ++ x) := by
  have ne : tv.ownBlock ≠ some G := fun e => by have := (h.row.lt G e).1; have := h.lt; omega
  have B := h.box.grown hg ne
  refine ⟨B.set_ 2 tv', ?_, (grown_new h.ext hg fun q e => (h.row.lt q e).1).trans (setCell_grown _ ⟨G, 2, none⟩ tv'), h.lt⟩
  rw [List.length_append, List.map_append]
  exact own_put hown B (by decide) _ _
theorem ints_not_mat {W : World} {g : Nat} {t : TypeId} {x y : Int} {a : Option Addr} {l c : Nat} (hB : Blk W g t #[.int .i64 x, .int .i64 y, .slice a l c]) {v : Value} {xs : List Int} (hi : Ints .u64 W v xs) (hl : 0 < xs.length) : ∀ b, v.ownBlock = some b → (some g : Option Nat) ≠ some b := fun b hb e => by
  obtain ⟨a', cap, rfl, -, -, h3⟩ := hi
  obtain ⟨b', off, rfl, -, hc⟩ := h3 hl
  have e1 : b' = b := by have h : some b' = some b := hb; injection h
  have e2 : g = b := by injection e
  have h0 := hc 0 hl
  rw [e1, ← e2, hB.cell] at h0
  rcases h : off + 0 with _ | _ | _ | k
  · rw [h] at h0; simp at h0
  · rw [h] at h0; simp at h0
  · rw [h] at h0; simp at h0
  · rw [h] at h0; simp at h0
theorem ints_not_def {W : World} {D : Nat} {d : Option (List Deferred)} (hK : W.heap[D]? = some (.deferred d)) {v : Value} {xs : List Int} (hi : Ints .u64 W v xs) (hl : 0 < xs.length) : ∀ b, v.ownBlock = some b → (some D : Option Nat) ≠ some b := fun b hb e => by
  obtain ⟨a', cap, rfl, -, -, h3⟩ := hi
  obtain ⟨b', off, rfl, -, hc⟩ := h3 hl
  have e1 : b' = b := by have h : some b' = some b := hb; injection h
  have e2 : D = b := by injection e
  obtain ⟨o, h1, h2⟩ := cells_of (hc 0 hl)
  rw [show (⟨b', off + 0, none⟩ : Addr).block = D from by rw [e2, ← e1], hK] at h1
  cases h1; cases h2
theorem InvS.keeps {wL W W' : World} {G n Bs Bn : Nat} {tv tv' : Value} {l l' : List Int} (h : InvS wL W G n tv l) (h' : InvS wL W' G n tv' l') (h1 : Bs < wL.heap.size) (h2 : Bn < wL.heap.size) (n1 : Bs ≠ G) (n2 : Bn ≠ G) : KeepsRow Bs Bn W W' :=
  ⟨(grown_cell h'.ext h1 n1).trans (grown_cell h.ext h1 n1).symm, fun _ => (grown_cell h'.ext h2 n2).trans (grown_cell h.ext h2 n2).symm⟩
end Go.Proofs.Ytdfkojbfgodegaa
/- Package solve: what isn't right. -/
namespace Go.Proofs.Ytdfkojbfgodegaa
open Go.RowKit Go.Maps

def noS : Value := .slice none 0 0
set_option maxHeartbeats 1000000 in
theorem svTake_no (p r c : Int) (v : Value) (xs : List Int) (w : World) (h0 : 0 ≤ p) (h1 : p ≤ 18446744073709551615) (hv : Ints .u64 w v xs) (hx : U64s xs) (h : matB p r c xs = false) :
    Calls Try.prog 31 #[.int .u64 p, matV r c v] w (Ret (.tuple #[apV noS noS noS noS p c, .int .i64 1]) w) := by
  have C := hid fun (W : World) (hW : Ext w W) => cmTake_no p r c v xs W h0 h1 (hv.ext hW) hx h
  unfold noCup at C
  unfold apV noS
  obtain ⟨a, cap, rfl, k1, k2, k3⟩ := hv
  unfold matV at C ⊢
  have hb2 := hid (boxes2 w 25 53 #[.int .i64 r, .int .i64 c, .slice a xs.length cap] #[.slice none 0 0, .slice none 0 0, .slice none 0 0, .slice none 0 0, .int .u64 0, .int .i64 0])
  clear k3 hx h
  go_enter Try.func31, Try.ntmps31
  go_wp2_with (first
    | (go_at_call 40; refine (C.out _ (by repeat (first | exact Ext.refl _ | assumption | refine Ext.drew ?_ | refine Ext.drewN ?_ _ | refine Ext.alloc ?_ _ | refine Ext.trans ?_ (by assumption)))).mono ?_; rintro _ w1 ⟨rfl, x1⟩
       have HR := hid ((hb2.out.2.1.ext x1).ext ((Ext.refl w1).alloc (.cells #[.slice none 0 0, .slice none 0 0, .slice none 0 0, .slice none 0 0] 51)))
       have c1 := ((hb2.out.1.ext x1).ext ((Ext.refl w1).alloc (.cells #[.slice none 0 0, .slice none 0 0, .slice none 0 0, .slice none 0 0] 51))).cell 1
       have f0 := HR.out.frozen 0; have f1 := HR.out.frozen 1; have f2 := HR.out.frozen 2; have f3 := HR.out.frozen 3; have f4 := HR.out.frozen 4; have f5 := HR.out.frozen 5
       have r0 := HR.out.cell 0; have r1 := HR.out.cell 1; have r2 := HR.out.cell 2; have r3 := HR.out.cell 3; have r4 := HR.out.cell 4; have r5 := HR.out.cell 5))
  have FF := (((((HR.out.set_ 0 (.slice none 0 0)).set_ 1 (.slice none 0 0)).set_ 2 (.slice none 0 0)).set_ 3 (.slice none 0 0)).set_ 4 (.int .u64 p)).set_ 5 (.int .i64 c)
  have hgr : w1.grownBy _ (some (w.heap.size + 1)) := ((((((((Ext.refl w1).alloc (.cells #[.slice none 0 0, .slice none 0 0, .slice none 0 0, .slice none 0 0] 51)).grownBy (some (w.heap.size + 1))).trans (setCell_grown _ ⟨w.heap.size + 1, 0, none⟩ (.slice none 0 0))).trans (setCell_grown _ ⟨w.heap.size + 1, 1, none⟩ (.slice none 0 0))).trans (setCell_grown _ ⟨w.heap.size + 1, 2, none⟩ (.slice none 0 0))).trans (setCell_grown _ ⟨w.heap.size + 1, 3, none⟩ (.slice none 0 0))).trans (setCell_grown _ ⟨w.heap.size + 1, 4, none⟩ (.int .u64 p))).trans (setCell_grown _ ⟨w.heap.size + 1, 5, none⟩ (.int .i64 c))
  have hX : Ext w w1 := (by repeat (first | exact Ext.refl _ | assumption | refine Ext.drew ?_ | refine Ext.drewN ?_ _ | refine Ext.alloc ?_ _ | refine Ext.trans ?_ (by assumption)))
  have hX9 := grown_ext hgr hX (Nat.le_succ _)
  refine bodyPost_ret (results_cell_row_tmp rfl _ _ (w.heap.size + 1) 53 _ (0, 0) _ rfl FF Try.underlying53 rfl (by kernel_rfl)) rfl ?_
  exact ⟨rfl, hX9⟩
set_option maxHeartbeats 1000000 in
theorem svKernel_arg (p r c : Int) (v : Value) (xs : List Int) (w : World) (h0 : 0 ≤ p) (h1 : p ≤ 18446744073709551615) (hv : Ints .u64 w v xs) (hx : U64s xs) (h : matB p r c xs = false) : Calls Try.prog 12 #[.int .u64 p, matV r c v] w (RetE 1 [] w) := by
  have C := hid fun (W : World) (hW : Ext w W) => svTake_no p r c v xs W h0 h1 (hv.ext hW) hx h
  obtain ⟨a, cap, rfl, k1, k2, k3⟩ := hv
  unfold matV apV noS at C
  unfold matV
  clear k3 hx h
  go_enter Try.func12, Try.ntmps12
  go_wp2_with (go_at_call 31; refine (C.out _ (by repeat (first | exact Ext.refl _ | assumption | refine Ext.drew ?_ | refine Ext.drewN ?_ _ | refine Ext.alloc ?_ _ | refine Ext.trans ?_ (by assumption)))).mono ?_; rintro _ w1 ⟨rfl, x1⟩)
  go_ret2
  exact ⟨_, rfl, Ints.nil, (by repeat (first | exact Ext.refl _ | assumption | refine Ext.drew ?_ | refine Ext.drewN ?_ _ | refine Ext.alloc ?_ _ | refine Ext.trans ?_ (by assumption)))⟩
set_option maxHeartbeats 1000000 in
theorem svLeft_arg (p r c : Int) (v : Value) (xs : List Int) (w : World) (h0 : 0 ≤ p) (h1 : p ≤ 18446744073709551615) (hv : Ints .u64 w v xs) (hx : U64s xs) (h : matB p r c xs = false) : Calls Try.prog 13 #[.int .u64 p, matV r c v] w (RetE 1 [] w) := by
  have C := hid fun (W : World) (hW : Ext w W) => svTake_no p r c v xs W h0 h1 (hv.ext hW) hx h
  obtain ⟨a, cap, rfl, k1, k2, k3⟩ := hv
  unfold matV apV noS at C
  unfold matV
  clear k3 hx h
  go_enter Try.func13, Try.ntmps13
  go_wp2_with (go_at_call 31; refine (C.out _ (by repeat (first | exact Ext.refl _ | assumption | refine Ext.drew ?_ | refine Ext.drewN ?_ _ | refine Ext.alloc ?_ _ | refine Ext.trans ?_ (by assumption)))).mono ?_; rintro _ w1 ⟨rfl, x1⟩)
  go_ret2
  exact ⟨_, rfl, Ints.nil, (by repeat (first | exact Ext.refl _ | assumption | refine Ext.drew ?_ | refine Ext.drewN ?_ _ | refine Ext.alloc ?_ _ | refine Ext.trans ?_ (by assumption)))⟩
set_option maxHeartbeats 1000000 in
theorem svSolve_arg (p r c : Int) (v u : Value) (xs b : List Int) (w : World) (h0 : 0 ≤ p) (h1 : p ≤ 18446744073709551615) (hv : Ints .u64 w v xs) (hx : U64s xs) (hu : Ints .u64 w u b) (hb : U64s b) (h : (matB p r c xs && vecB p r b) = false) : Calls Try.prog 10 #[.int .u64 p, matV r c v, u] w (RetE 1 [] w) := by
  have C1 := hid fun (W : World) (hW : Ext w W) => svBeside p r c v u xs b W h0 h1 (hv.ext hW) (hu.ext hW) hb
  by_cases hm : matB p r c xs = false
  · have C := hid fun (W : World) (hW : Ext w W) => svTake_no p r c v xs W h0 h1 (hv.ext hW) hx hm
    obtain ⟨B, eB⟩ : ∃ B, vecB p r b = B := ⟨_, rfl⟩
    rw [eB] at C1
    obtain ⟨a, cap, rfl, k1, k2, k3⟩ := hv
    obtain ⟨a', cap', rfl, k1', k2', k3'⟩ := hu
    have hA := hid (Blk.new w 25 #[.int .i64 r, .int .i64 c, .slice a xs.length cap])
    obtain ⟨b0, b1, b2⟩ := hA.out.at3
    unfold matV apV noS at C
    unfold matV at C1
    unfold matV
    clear k3 k3' hx hb h hm eB
    cases B with
    | false =>
      go_enter Try.func10, Try.ntmps10
      go_wp2_with (go_at_call 30; refine (C1.out _ (by repeat (first | exact Ext.refl _ | assumption | refine Ext.drew ?_ | refine Ext.drewN ?_ _ | refine Ext.alloc ?_ _ | refine Ext.trans ?_ (by assumption)))).mono ?_; rintro _ w1 ⟨rfl, x1⟩)
      go_ret2
      exact ⟨_, rfl, Ints.nil, (by repeat (first | exact Ext.refl _ | assumption | refine Ext.drew ?_ | refine Ext.drewN ?_ _ | refine Ext.alloc ?_ _ | refine Ext.trans ?_ (by assumption)))⟩
    | true =>
      go_enter Try.func10, Try.ntmps10
      go_wp2_with (first
        | (go_at_call 30; refine (C1.out _ (by repeat (first | exact Ext.refl _ | assumption | refine Ext.drew ?_ | refine Ext.drewN ?_ _ | refine Ext.alloc ?_ _ | refine Ext.trans ?_ (by assumption)))).mono ?_; rintro _ w1 ⟨rfl, x1⟩; have HA1 := hid (hA.out.ext x1); obtain ⟨d0, d1, d2⟩ := HA1.out.at3)
        | (go_at_call 31; refine (C.out _ (by repeat (first | exact Ext.refl _ | assumption | refine Ext.drew ?_ | refine Ext.drewN ?_ _ | refine Ext.alloc ?_ _ | refine Ext.trans ?_ (by assumption)))).mono ?_; rintro _ w2 ⟨rfl, x2⟩))
      go_ret2
      exact ⟨_, rfl, Ints.nil, (by repeat (first | exact Ext.refl _ | assumption | refine Ext.drew ?_ | refine Ext.drewN ?_ _ | refine Ext.alloc ?_ _ | refine Ext.trans ?_ (by assumption)))⟩
  · have hvf : vecB p r b = false := by
      have : matB p r c xs = true := by simpa using hm
      rw [this] at h; simpa using h
    rw [hvf] at C1
    obtain ⟨a, cap, rfl, k1, k2, k3⟩ := hv
    obtain ⟨a', cap', rfl, k1', k2', k3'⟩ := hu
    have hA := hid (Blk.new w 25 #[.int .i64 r, .int .i64 c, .slice a xs.length cap])
    obtain ⟨b0, b1, b2⟩ := hA.out.at3
    unfold matV at C1
    unfold matV
    clear k3 k3' hx hb h hm hvf
    go_enter Try.func10, Try.ntmps10
    go_wp2_with (go_at_call 30; refine (C1.out _ (by repeat (first | exact Ext.refl _ | assumption | refine Ext.drew ?_ | refine Ext.drewN ?_ _ | refine Ext.alloc ?_ _ | refine Ext.trans ?_ (by assumption)))).mono ?_; rintro _ w1 ⟨rfl, x1⟩)
    go_ret2
    exact ⟨_, rfl, Ints.nil, (by repeat (first | exact Ext.refl _ | assumption | refine Ext.drew ?_ | refine Ext.drewN ?_ _ | refine Ext.alloc ?_ _ | refine Ext.trans ?_ (by assumption)))⟩
set_option maxHeartbeats 1000000 in
theorem svAgainst_arg (p r c : Int) (v u : Value) (xs b : List Int) (w : World) (h0 : 0 ≤ p) (h1 : p ≤ 18446744073709551615) (hv : Ints .u64 w v xs) (hx : U64s xs) (hu : Ints .u64 w u b) (hb : U64s b) (h : (matB p r c xs && vecB p r b) = false) : Calls Try.prog 11 #[.int .u64 p, matV r c v, u] w (RetE 1 [] w) := by
  have C1 := hid fun (W : World) (hW : Ext w W) => svBeside p r c v u xs b W h0 h1 (hv.ext hW) (hu.ext hW) hb
  by_cases hm : matB p r c xs = false
  · have C := hid fun (W : World) (hW : Ext w W) => svTake_no p r c v xs W h0 h1 (hv.ext hW) hx hm
    obtain ⟨B, eB⟩ : ∃ B, vecB p r b = B := ⟨_, rfl⟩
    rw [eB] at C1
    obtain ⟨a, cap, rfl, k1, k2, k3⟩ := hv
    obtain ⟨a', cap', rfl, k1', k2', k3'⟩ := hu
    have hA := hid (Blk.new w 25 #[.int .i64 r, .int .i64 c, .slice a xs.length cap])
    obtain ⟨b0, b1, b2⟩ := hA.out.at3
    unfold matV apV noS at C
    unfold matV at C1
    unfold matV
    clear k3 k3' hx hb h hm eB
    cases B with
    | false =>
      go_enter Try.func11, Try.ntmps11
      go_wp2_with (go_at_call 30; refine (C1.out _ (by repeat (first | exact Ext.refl _ | assumption | refine Ext.drew ?_ | refine Ext.drewN ?_ _ | refine Ext.alloc ?_ _ | refine Ext.trans ?_ (by assumption)))).mono ?_; rintro _ w1 ⟨rfl, x1⟩)
      go_ret2
      exact ⟨_, rfl, Ints.nil, (by repeat (first | exact Ext.refl _ | assumption | refine Ext.drew ?_ | refine Ext.drewN ?_ _ | refine Ext.alloc ?_ _ | refine Ext.trans ?_ (by assumption)))⟩
    | true =>
      go_enter Try.func11, Try.ntmps11
      go_wp2_with (first
        | (go_at_call 30; refine (C1.out _ (by repeat (first | exact Ext.refl _ | assumption | refine Ext.drew ?_ | refine Ext.drewN ?_ _ | refine Ext.alloc ?_ _ | refine Ext.trans ?_ (by assumption)))).mono ?_; rintro _ w1 ⟨rfl, x1⟩; have HA1 := hid (hA.out.ext x1); obtain ⟨d0, d1, d2⟩ := HA1.out.at3)
        | (go_at_call 31; refine (C.out _ (by repeat (first | exact Ext.refl _ | assumption | refine Ext.drew ?_ | refine Ext.drewN ?_ _ | refine Ext.alloc ?_ _ | refine Ext.trans ?_ (by assumption)))).mono ?_; rintro _ w2 ⟨rfl, x2⟩))
      go_ret2
      exact ⟨_, rfl, Ints.nil, (by repeat (first | exact Ext.refl _ | assumption | refine Ext.drew ?_ | refine Ext.drewN ?_ _ | refine Ext.alloc ?_ _ | refine Ext.trans ?_ (by assumption)))⟩
  · have hvf : vecB p r b = false := by
      have : matB p r c xs = true := by simpa using hm
      rw [this] at h; simpa using h
    rw [hvf] at C1
    obtain ⟨a, cap, rfl, k1, k2, k3⟩ := hv
    obtain ⟨a', cap', rfl, k1', k2', k3'⟩ := hu
    have hA := hid (Blk.new w 25 #[.int .i64 r, .int .i64 c, .slice a xs.length cap])
    obtain ⟨b0, b1, b2⟩ := hA.out.at3
    unfold matV at C1
    unfold matV
    clear k3 k3' hx hb h hm hvf
    go_enter Try.func11, Try.ntmps11
    go_wp2_with (go_at_call 30; refine (C1.out _ (by repeat (first | exact Ext.refl _ | assumption | refine Ext.drew ?_ | refine Ext.drewN ?_ _ | refine Ext.alloc ?_ _ | refine Ext.trans ?_ (by assumption)))).mono ?_; rintro _ w1 ⟨rfl, x1⟩)
    go_ret2
    exact ⟨_, rfl, Ints.nil, (by repeat (first | exact Ext.refl _ | assumption | refine Ext.drew ?_ | refine Ext.drewN ?_ _ | refine Ext.alloc ?_ _ | refine Ext.trans ?_ (by assumption)))⟩
/-- no matrix, and an error's number -/
def RetNo (code : Int) (w : World) (e : Ending) (w' : World) : Prop := ∃ u, e = .returned (.tuple #[matV 0 0 u, .int .i64 code]) ∧ Ints .u64 w' u [] ∧ Ext w w'
end Go.Proofs.Ytdfkojbfgodegaa
/- What the functions of package solve answer: Sv1 to SvN show it of the program. -/
namespace Go.Proofs.Ytdfkojbfgodegaa
open Go.RowKit

/-- what is against is the first of those that are -/
theorem AgOf.of {p : Int} {m n : Nat} {xs b : List Int} (ok : MatOk p m n xs) (hf : Fld p) (hb : b.length = m) (hr : Rng p b) (h : ¬ ∃ x, IsX p m n xs b x) : ∃ y, AgOf p m n xs b y := by
  have hex : ∃ i, ∃ y, i < m ∧ i ∉ (takeL p m n xs).rows ∧ IsY p m n xs i y ∧ dotF m (atV y) (atV b) % p ≠ 0 := by
    refine Classical.byContradiction fun hn => h (IsX.or ok hf hb hr fun i y hi hc hy => Classical.byContradiction fun hne => hn ⟨i, y, hi, hc, hy, hne⟩)
  obtain ⟨i, ⟨y, h1, h2, h3, h4⟩, h5⟩ : ∃ i, (∃ y, i < m ∧ i ∉ (takeL p m n xs).rows ∧ IsY p m n xs i y ∧ dotF m (atV y) (atV b) % p ≠ 0) ∧ ∀ k, k < i → ¬ ∃ y, k < m ∧ k ∉ (takeL p m n xs).rows ∧ IsY p m n xs k y ∧ dotF m (atV y) (atV b) % p ≠ 0 := by
    obtain ⟨i, hi⟩ := hex
    induction i using Nat.strongRecOn with
    | ind i ih =>
      by_cases hk : ∃ k, k < i ∧ ∃ y, k < m ∧ k ∉ (takeL p m n xs).rows ∧ IsY p m n xs k y ∧ dotF m (atV y) (atV b) % p ≠ 0
      · obtain ⟨k, hki, hk⟩ := hk
        exact ih k hki hk
      · exact ⟨i, hi, fun k hki hk' => hk ⟨k, hki, hk'⟩⟩
  exact ⟨y, i, h1, h2, h3, h4, fun k z hk hc hz => Classical.byContradiction fun hne => h5 k hk ⟨z, by omega, hc, hz, hne⟩⟩
theorem AgOf.none {p : Int} {m n : Nat} {xs b : List Int} {x : List Int} (h : IsX p m n xs b x) : ¬ ∃ y, AgOf p m n xs b y := fun ⟨_, _, _, _, hy, hne, _⟩ => hne (h.none hy)
end Go.Proofs.Ytdfkojbfgodegaa
/- What package solve finds shows what it is for. -/
namespace Go.Proofs.Ytdfkojbfgodegaa
open Go.RowKit Go.Maps
section
variable {p : Int} {m n : Nat} {xs b x y : List Int}
theorem solA_mn (ok : MatOk p m n xs) : solA p m n xs b x = solB p m n xs b x := by unfold solA; rw [ok.b, Bool.true_and, Int.toNat_natCast, Int.toNat_natCast]
theorem losA_mn (ok : MatOk p m n xs) : losA p m n xs y = losB p m n xs y := by unfold losA; rw [ok.b, Bool.true_and, Int.toNat_natCast, Int.toNat_natCast]
theorem agA_mn (ok : MatOk p m n xs) : agA p m n xs b y = agB p m n xs b y := by unfold agA; rw [ok.b, Bool.true_and, Int.toNat_natCast, Int.toNat_natCast]
theorem sinA_nn (ok : MatOk p n n xs) : sinA p n n xs x = sinB p n xs x := by unfold sinA; rw [ok.b, Bool.true_and, Int.toNat_natCast, decide_eq_true rfl, Bool.true_and]
theorem vecB_nil {k : Nat} (h : 1 ≤ k) : vecB p k [] = false := by
  unfold vecB
  rw [decide_eq_false (by simp; omega)]; rfl
theorem u64_nil : U64s [] := fun _ h => by simp at h
theorem leOf_of (ok : MatOk p m n xs) (hf : Fld p) (h : (takeL p m n xs).U.length < m) : ∃ y, LeOf p m n xs y := by
  have ht := takeL_ok (m := m) (n := n) (rightB_true ok.hp).1 hf ok.hx
  have hnd : (takeL p m n xs).rows.Nodup := by
    unfold List.Nodup
    rw [List.pairwise_iff_getElem]
    intro i k hi hk hik e
    have := ht.inc i k hik hk
    simp only [List.getD, List.getElem?_eq_getElem hi, List.getElem?_eq_getElem hk, Option.getD_some] at this
    omega
  have hfr : freeC m (takeL p m n xs).rows < m := (freeC_lt hnd fun c hc => ht.rows_lt hc).2 (by rw [ht.lr]; exact h)
  obtain ⟨y, hy⟩ := IsY.of ok hf hfr (freeC_not hfr)
  exact ⟨y, _, hfr, freeC_not hfr, hy, fun k hk => freeC_low hk⟩
end
/-- a solution, or what is against -/
theorem wt_sol (p : Int) (m n : Nat) (v u : Value) (xs b : List Int) (w : World) (ok : MatOk p m n xs) (hf : Fld p) (hv : Ints .u64 w v xs) (hu : Ints .u64 w u b) (hb : b.length = m) (hr : Rng p b) :
    ∃ (e1 e2 : Int) (s a : List Int) (B : Bool), (e1 == 0) = B ∧ (e2 == 0) = !B ∧ U64s s ∧ U64s a ∧ (∀ W, Ext w W → Calls Try.prog 10 #[.int .u64 p, matV m n v, u] W (RetE e1 s W)) ∧ (∀ W, Ext w W → Calls Try.prog 11 #[.int .u64 p, matV m n v, u] W (RetE e2 a W)) ∧
      solA p m n xs b s = B ∧ agA p m n xs b a = (!B) ∧ (∀ x, solA p m n xs b x = true → B = true) ∧ (∀ y, U64s y → agA p m n xs b y = true → B = false) := by
  have hp2 := rightB_true ok.hp
  have hbu := hr.u64 hp2.2
  by_cases h : ∃ x, IsX p m n xs b x
  · obtain ⟨x, hx⟩ := h
    have hsol := solB_of ok hb hr hx
    refine ⟨0, 6, x, [], true, rfl, rfl, hx.rng.u64 hp2.2, u64_nil, fun W hW => svSolve_yes p m n v u xs b x W ok hf (hv.ext hW) (hu.ext hW) hb hr hx, fun W hW => svAgainst_no p m n v u xs b W ok hf (hv.ext hW) (hu.ext hW) hb hr (AgOf.none hx), ?_, ?_, fun _ _ => rfl, fun y hy h => ?_⟩
    · rw [solA_mn ok, hsol]
    · rw [agA_mn ok, agB_not ok hbu u64_nil hsol]; rfl
    · rw [agA_mn ok, agB_not ok hbu hy hsol] at h; cases h
  · obtain ⟨y, hy⟩ := AgOf.of ok hf hb hr h
    have hy' := hy
    obtain ⟨i, h1, h2, h3, h4, h5⟩ := hy'
    refine ⟨6, 0, [], y, false, rfl, rfl, u64_nil, h3.rng.u64 hp2.2, fun W hW => svSolve_no p m n v u xs b W ok hf (hv.ext hW) (hu.ext hW) hb hr h, fun W hW => svAgainst_yes p m n v u xs b y W ok hf (hv.ext hW) (hu.ext hW) hb hr hy, ?_, ?_, fun x hs => ?_, fun _ _ _ => rfl⟩
    · rw [solA_mn ok]
      cases e : solB p m n xs b [] with
      | false => rfl
      | true => exact absurd (solB_has ok hf e) h
    · rw [agA_mn ok, agB_of ok hb hr h3 h4]; rfl
    · rw [solA_mn ok] at hs
      exact absurd (solB_has ok hf hs) h
/-- what makes 0, and the determinant -/
theorem wt_ker (p : Int) (m n : Nat) (v : Value) (xs : List Int) (w : World) (ok : MatOk p m n xs) (hf : Fld p) (hv : Ints .u64 w v xs) :
    ∃ (e D : Int) (k : List Int) (B : Bool), (e == 0) = B ∧ U64s k ∧ (∀ W, Ext w W → Calls Try.prog 12 #[.int .u64 p, matV m n v] W (RetE e k W)) ∧
      (m = n → sinA p m n xs k = B ∧ (D == 0) = B ∧ ∀ W, Ext w W → Calls Try.prog 17 #[.int .u64 p, matV m n v] W (Ret (.tuple #[.int .u64 D, .int .i64 0]) W)) := by
  have hp2 := rightB_true ok.hp
  by_cases h : (takeL p m n xs).U.length < n
  · obtain ⟨x, hx⟩ := IsK.of ok hf h
    refine ⟨0, detF n (atF n xs) % p, x, true, rfl, hx.rng.u64 hp2.2, fun W hW => svKernel_yes p m n v xs x W ok hf (hv.ext hW) hx h, fun e => ?_⟩
    subst e
    refine ⟨by rw [sinA_nn ok, sinB_of ok hx], ?_, fun W hW => cmDet_yes p m v xs W ok hf (hv.ext hW)⟩
    rw [(det_rank hp2.1 hf ok.hx).2 (by omega)]; rfl
  · refine ⟨6, detF n (atF n xs) % p, [], false, rfl, u64_nil, fun W hW => svKernel_no p m n v xs W ok hf (hv.ext hW) h, fun e => ?_⟩
    subst e
    have hle := (takeL_ok (m := m) (n := m) hp2.1 hf ok.hx).le
    refine ⟨?_, ?_, fun W hW => cmDet_yes p m v xs W ok hf (hv.ext hW)⟩
    · rw [sinA_nn ok]
      unfold sinB
      rw [vecB_nil ok.hn.1]; rfl
    · rw [beq_eq_false_iff_ne]
      intro e
      exact (det_rank hp2.1 hf ok.hx).1 e (by omega)
/-- what loses -/
theorem wt_left (p : Int) (m n : Nat) (v : Value) (xs : List Int) (w : World) (ok : MatOk p m n xs) (hf : Fld p) (hv : Ints .u64 w v xs) :
    ∃ (e : Int) (l : List Int) (B : Bool), (e == 0) = B ∧ U64s l ∧ (∀ W, Ext w W → Calls Try.prog 13 #[.int .u64 p, matV m n v] W (RetE e l W)) ∧ losA p m n xs l = B ∧ ∀ y, U64s y → losA p m n xs y = true → B = true := by
  have hp2 := rightB_true ok.hp
  by_cases h : (takeL p m n xs).U.length < m
  · obtain ⟨x, hx⟩ := leOf_of ok hf h
    have hx2 := hx
    obtain ⟨i, h1, h2, h3, h4⟩ := hx2
    exact ⟨0, x, true, rfl, h3.rng.u64 hp2.2, fun W hW => svLeft_yes p m n v xs x W ok hf (hv.ext hW) hx, by rw [losA_mn ok, losB_of ok h3], fun _ _ _ => rfl⟩
  · refine ⟨6, [], false, rfl, u64_nil, fun W hW => svLeft_no p m n v xs W ok hf (hv.ext hW) h, ?_, fun y hy hl => ?_⟩
    · rw [losA_mn ok]
      unfold losB
      rw [vecB_nil ok.hm.1]; rfl
    · rw [losA_mn ok] at hl
      exact absurd (losB_has ok hf hy hl) h
end Go.Proofs.Ytdfkojbfgodegaa
