/- Package solve: Inverse. -/
import Derived.Test.YtijpeepdedfhoaaGreatBun29
import Derived.Test.YtijpeepdedfhoaaGreatBun23
import Derived.Test.YtijpeepdedfhoaaGreatCollect
import Derived.Test.YtijpeepdedfhoaaGreatBun11
import Derived.RangeFuncCalls
import Derived.Maps.OwnIn
namespace Go.Proofs.YtijpeepdedfhoaaGreat
open Go.RowKit Go.Maps Go.Shelf

attribute [local go_sem] Oper.semAt_some

/-- a matrix's column -/
def colOf (n : Nat) (us : List Int) (k : Nat) : List Int := tab n fun j => us.getD (j * n + k) 0
theorem flat_len (n : Nat) (f : Nat → List Int) (hf : ∀ k, (f k).length = n) : ∀ L : List Nat, ((L.map f).flatten).length = L.length * n
  | [] => by simp
  | a :: L => by rw [List.map_cons, List.flatten_cons, List.length_append, flat_len n f hf L, hf, List.length_cons, Nat.succ_mul, Nat.add_comm]
theorem flat_get (n : Nat) (f : Nat → List Int) (hf : ∀ k, (f k).length = n) : ∀ (L : List Nat) (k j : Nat), k < L.length → j < n → ((L.map f).flatten).getD (k * n + j) 0 = (f (L.getD k 0)).getD j 0
  | [], _, _, h, _ => absurd h (Nat.not_lt_zero _)
  | a :: L, 0, j, _, hj => by
    rw [List.map_cons, List.flatten_cons, Nat.zero_mul, Nat.zero_add]
    simp only [List.getD, List.getElem?_append, hf, hj, if_true, List.getElem?_cons_zero, Option.getD_some]
  | a :: L, k + 1, j, h, hj => by
    have := flat_get n f hf L k j (by simpa using h) hj
    rw [List.map_cons, List.flatten_cons, List.getD_cons_succ, ← this]
    have h1 : ¬ (k + 1) * n + j < n := by rw [Nat.succ_mul]; omega
    have h2 : (k + 1) * n + j - n = k * n + j := by rw [Nat.succ_mul]; omega
    simp only [List.getD, List.getElem?_append, hf, h1, if_false, h2]
theorem IsInv.col {p : Int} {n : Nat} {xs us : List Int} (ok : MatOk p n n xs) (hf : Fld p) (hr : (takeL p n n xs).U.length = n) (h : IsInv p n xs us) {k : Nat} (hk : k < n) : IsX p n n xs (rowOf n (oneL n) k) (colOf n us k) := by
  have hp := (rightB_true ok.hp).1
  have ho := takeL_ok (m := n) (n := n) hp hf ok.hx
  have hfc := (freeC_lt (n := n) ho.cols_nodup fun c hc => ho.cols_lt hc)
  rw [ho.lk, hr] at hfc
  have hge : n ≤ freeC n (takeL p n n xs).cols := Nat.le_of_not_lt fun hlt => by have := hfc.1 hlt; omega
  refine ⟨tab_len _ _, tab_rng fun _ _ => h.rng.getD hp _, ?_, fun j hj hc => absurd (freeC_low (n := n) (by omega)) hc⟩
  refine list_ext (by rw [timesL_len]; exact (tab_len _ _).symm) fun i hi => ?_
  rw [timesL_len] at hi
  rw [times_get hi]
  have h1 := congrArg (fun l : List Int => l.getD (i * n + k) 0) h.one
  simp only [mulL, oneL] at h1
  rw [grid_get _ hi hk, grid_get _ hi hk] at h1
  have h2 : (rowOf n (oneL n) k).getD i 0 = if k = i then 1 else 0 := by
    rw [rowOf, tab_get _ hi, oneL, grid_get _ hk hi]
  rw [h2, show (if k = i then (1 : Int) else 0) = if i = k then 1 else 0 by
    by_cases e : i = k
    · rw [if_pos e, if_pos e.symm]
    · rw [if_neg e, if_neg fun h => e h.symm], ← h1]
  unfold dv appF
  refine congrArg (· % p) (sm_congr fun j hj => ?_)
  show (rowOf n xs i).getD j 0 * (colOf n us k).getD j 0 = xs.getD (i * n + j) 0 * us.getD (j * n + k) 0
  rw [show (rowOf n xs i).getD j 0 = xs.getD (i * n + j) 0 from tab_get _ hj, show (colOf n us k).getD j 0 = us.getD (j * n + k) 0 from tab_get _ hj]
theorem cols_turn {n : Nat} {us : List Int} : ((List.range n).map (colOf n us)).flatten = turnL n n us := by
  refine grid_of (by rw [flat_len n (colOf n us) fun k => tab_len _ _, List.length_range]) fun k j hk hj => ?_
  rw [flat_get n (colOf n us) (fun k => tab_len _ _) _ _ _ (by rw [List.length_range]; exact hk) hj]
  have : (List.range n).getD k 0 = k := by simp [List.getD, hk]
  rw [this]
  exact tab_get _ hj
/-- columns that are gathered: the matrix's box and its row -/
structure InvS (wL W : World) (G n : Nat) (tv : Value) (l : List Int) : Prop where
  box : Blk W G 25 #[.int .i64 (n : Int), .int .i64 (n : Int), tv]
  row : W.ownsRow wL.heap.size 22 1 tv l.length (l.map (Value.int .u64))
  ext : wL.grownBy W (some G)
  lt : G < wL.heap.size
theorem InvS.ext' {wL W W' : World} {G n : Nat} {tv : Value} {l : List Int} (h : InvS wL W G n tv l) (x : Ext W W') : InvS wL W' G n tv l :=
  ⟨h.box.ext x, ownsRow_ext h.row x, h.ext.trans (x.grownBy _), h.lt⟩
theorem InvS.own {wL W W' : World} {G n : Nat} {tv : Value} {l : List Int} (h : InvS wL W G n tv l) {row : Option Nat} (hg : W.grownBy W' row) (hr : ∀ r, row = some r → wL.heap.size ≤ r ∧ ∃ o : Obj, W.heap[r]? = some o ∧ o.isCells = false) : InvS wL W' G n tv l :=
  ⟨h.box.grown hg (fun e => by have := (hr G e).1; have := h.lt; omega), h.row.kept hg (by
    rcases h.row.2 with ⟨rfl, _⟩ | ⟨g, cap, cur, rfl, _, hb, _⟩
    · exact .inl rfl
    · refine .inr fun e => ?_
      obtain ⟨_, o, ho, hc⟩ := hr g (by rw [← e]; rfl)
      rw [hb] at ho
      cases ho; cases hc), grown_new h.ext hg fun q e => (hr q e).1, h.lt⟩
/-- a column is put behind -/
theorem InvS.put {wL W W' : World} {G n : Nat} {tv tv' : Value} {l x : List Int} (h : InvS wL W G n tv l) (hown : W'.ownsRow wL.heap.size 22 1 tv' (l.length + x.length) (l.map (Value.int .u64) ++ x.map (Value.int .u64))) (hg : W.grownBy W' tv.ownBlock) :
    InvS wL (W'.setCell ⟨G, 2, none⟩ tv') G n tv' (l ++ x) := by
  have ne : tv.ownBlock ≠ some G := fun e => by have := (h.row.lt G e).1; have := h.lt; omega
  have B := h.box.grown hg ne
  refine ⟨B.set_ 2 tv', ?_, (grown_new h.ext hg fun q e => (h.row.lt q e).1).trans (setCell_grown _ ⟨G, 2, none⟩ tv'), h.lt⟩
  rw [List.length_append, List.map_append]
  exact own_put hown B (by decide) _ _
theorem ints_not_mat {W : World} {g : Nat} {t : TypeId} {x y : Int} {a : Option Addr} {l c : Nat} (hB : Blk W g t #[.int .i64 x, .int .i64 y, .slice a l c]) {v : Value} {xs : List Int} (hi : Ints .u64 W v xs) (hl : 0 < xs.length) : ∀ b, v.ownBlock = some b → (some g : Option Nat) ≠ some b := fun b hb e => by
  obtain ⟨a', cap, rfl, -, -, h3⟩ := hi
  obtain ⟨b', off, rfl, -, hc⟩ := h3 hl
  have e1 : b' = b := by have h : some b' = some b := hb; injection h
  have e2 : g = b := by injection e
  have h0 := hc 0 hl
  rw [e1, ← e2, hB.cell] at h0
  rcases h : off + 0 with _ | _ | _ | k
  · rw [h] at h0; simp at h0
  · rw [h] at h0; simp at h0
  · rw [h] at h0; simp at h0
  · rw [h] at h0; simp at h0
theorem ints_not_def {W : World} {D : Nat} {d : Option (List Deferred)} (hK : W.heap[D]? = some (.deferred d)) {v : Value} {xs : List Int} (hi : Ints .u64 W v xs) (hl : 0 < xs.length) : ∀ b, v.ownBlock = some b → (some D : Option Nat) ≠ some b := fun b hb e => by
  obtain ⟨a', cap, rfl, -, -, h3⟩ := hi
  obtain ⟨b', off, rfl, -, hc⟩ := h3 hl
  have e1 : b' = b := by have h : some b' = some b := hb; injection h
  have e2 : D = b := by injection e
  obtain ⟨o, h1, h2⟩ := cells_of (hc 0 hl)
  rw [show (⟨b', off + 0, none⟩ : Addr).block = D from by rw [e2, ← e1], hK] at h1
  cases h1; cases h2
theorem InvS.keeps {wL W W' : World} {G n Bs Bn : Nat} {tv tv' : Value} {l l' : List Int} (h : InvS wL W G n tv l) (h' : InvS wL W' G n tv' l') (h1 : Bs < wL.heap.size) (h2 : Bn < wL.heap.size) (n1 : Bs ≠ G) (n2 : Bn ≠ G) : KeepsRow Bs Bn W W' :=
  ⟨(grown_cell h'.ext h1 n1).trans (grown_cell h.ext h1 n1).symm, fun _ => (grown_cell h'.ext h2 n2).trans (grown_cell h.ext h2 n2).symm⟩
end Go.Proofs.YtijpeepdedfhoaaGreat
