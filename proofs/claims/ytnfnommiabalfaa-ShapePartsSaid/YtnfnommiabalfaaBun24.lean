/- What the texts T7M, R7Take show, in one text. -/
import Derived.Test.YtnfnommiabalfaaBun17
import Derived.Test.YtnfnommiabalfaaBun13
import Derived.Test.YtnfnommiabalfaaBun06
import Derived.Test.YtnfnommiabalfaaBun10
import Derived.Deep.RegionLaw
import Derived.Deep.RegionHeld3
/- The document's own answer of layer 7, Take: a matrix as far as it is taken apart, in memory. -/
namespace Go.Proofs.Ytnfnommiabalfaa
open Go.RowKit Go.Maps

theorem getD_set7 {α : Type} (l : List α) (i j : Nat) (x d : α) (hi : i < l.length) : (l.set i x).getD j d = if i = j then x else l.getD j d := by
  simp only [List.getD, List.getElem?_set]
  split
  · rfl
  · rfl
/-- a matrix as far as it is taken apart: its box, and its rows, each of the call's own and apart from the others -/
structure T7 (w0 w : World) (g : Nat) (R K : List Int) (C U : List (List Int)) (rv cv Cv Uv : Value) (cs us : List Value) : Prop where
  box : Blk w g 29 #[rv, cv, Cv, Uv]
  rows : w.ownsRow w0.heap.size 3 1 rv R.length (R.map (Value.int .i64))
  cols : w.ownsRow w0.heap.size 3 1 cv K.length (K.map (Value.int .i64))
  cc : w.ownsRow w0.heap.size 23 1 Cv C.length cs
  uu : w.ownsRow w0.heap.size 23 1 Uv U.length us
  crow : ∀ j, j < C.length → w.ownsRow w0.heap.size 22 1 (cs.getD j undef) (C.getD j []).length ((C.getD j []).map (Value.int .u64))
  urow : ∀ j, j < U.length → w.ownsRow w0.heap.size 22 1 (us.getD j undef) (U.getD j []).length ((U.getD j []).map (Value.int .u64))
  a1 : Ap rv cv
  a2 : Ap Cv Uv
  a5 : ∀ j k, j < C.length → k < C.length → j ≠ k → Ap (cs.getD j undef) (cs.getD k undef)
  a6 : ∀ j k, j < C.length → k < U.length → Ap (cs.getD j undef) (us.getD k undef)
  ext : Ext w0 w
  hg : w0.heap.size ≤ g
section
variable {w0 w w1 : World} {g : Nat} {R K : List Int} {C U : List (List Int)} {rv cv Cv Uv : Value} {cs us : List Value}

theorem T7.lc (T : T7 w0 w g R K C U rv cv Cv Uv cs us) : cs.length = C.length := by have := T.cc.1; simpa using this
theorem T7.lu (T : T7 w0 w g R K C U rv cv Cv Uv cs us) : us.length = U.length := by have := T.uu.1; simpa using this
theorem T7.ext' (T : T7 w0 w g R K C U rv cv Cv Uv cs us) (x : Ext w w1) : T7 w0 w1 g R K C U rv cv Cv Uv cs us :=
  ⟨T.box.ext x, ownsRow_ext T.rows x, ownsRow_ext T.cols x, ownsRow_ext T.cc x, ownsRow_ext T.uu x, fun j hj => ownsRow_ext (T.crow j hj) x, fun j hj => ownsRow_ext (T.urow j hj) x, T.a1, T.a2, T.a5, T.a6, T.ext.trans x, T.hg⟩
theorem T7.at4 (T : T7 w0 w g R K C U rv cv Cv Uv cs us) : w.cell? ⟨g, 0, none⟩ = some rv ∧ w.cell? ⟨g, 1, none⟩ = some cv ∧ w.cell? ⟨g, 2, none⟩ = some Cv ∧ w.cell? ⟨g, 3, none⟩ = some Uv := T.box.at4
/-- the box, where something else has grown -/
theorem T7.box' (T : T7 w0 w g R K C U rv cv Cv Uv cs us) {b n : Nat} {e : TypeId} {v : Value} {xs : List Value} (h : w.ownsRow b e 1 v n xs) (he : e ≠ 29) (hg : w.grownBy w1 v.ownBlock) : Blk w1 g 29 #[rv, cv, Cv, Uv] :=
  T.box.grown hg (by
    rcases ownsRow_blk h T.box he with e | e
    · rw [e]; simp
    · exact e)
/-- a row's number more -/
theorem T7.addR (T : T7 w0 w g R K C U rv cv Cv Uv cs us) {v' : Value} {x : Int} (hown : w1.ownsRow w0.heap.size 3 1 v' (R.length + 1) (R.map (Value.int .i64) ++ [.int .i64 x])) (hg : w.grownBy w1 rv.ownBlock) (hat : v'.ownBlock = rv.ownBlock ∨ v'.ownBlock = some w.heap.size) :
    T7 w0 (w1.setCell ⟨g, 0, none⟩ v') g (R ++ [x]) K C U v' cv Cv Uv cs us := by
  have B := T.box' T.rows (by decide) hg
  refine ⟨B.set_ 0 v', own_put (by rw [List.length_append, List.map_append]; exact hown) B (by decide) _ _, own_put (T.cols.kept hg T.a1.symm) B (by decide) _ _, own_put (T.cc.kept hg (ownsRow_apart T.cc T.rows (by decide))) B (by decide) _ _, own_put (T.uu.kept hg (ownsRow_apart T.uu T.rows (by decide))) B (by decide) _ _,  fun j hj => own_put ((T.crow j hj).kept hg (ownsRow_apart (T.crow j hj) T.rows (by decide))) B (by decide) _ _, fun j hj => own_put ((T.urow j hj).kept hg (ownsRow_apart (T.urow j hj) T.rows (by decide))) B (by decide) _ _,
    (T.a1.symm.grown T.cols hat).symm, T.a2, T.a5, T.a6, (T.ext.grown hg fun k e => (T.rows.lt k e).1).setCell T.hg _, T.hg⟩
/-- a column more -/
theorem T7.addK (T : T7 w0 w g R K C U rv cv Cv Uv cs us) {v' : Value} {x : Int} (hown : w1.ownsRow w0.heap.size 3 1 v' (K.length + 1) (K.map (Value.int .i64) ++ [.int .i64 x])) (hg : w.grownBy w1 cv.ownBlock) (hat : v'.ownBlock = cv.ownBlock ∨ v'.ownBlock = some w.heap.size) :
    T7 w0 (w1.setCell ⟨g, 1, none⟩ v') g R (K ++ [x]) C U rv v' Cv Uv cs us := by
  have B := T.box' T.cols (by decide) hg
  refine ⟨B.set_ 1 v', own_put (T.rows.kept hg T.a1) B (by decide) _ _, own_put (by rw [List.length_append, List.map_append]; exact hown) B (by decide) _ _, own_put (T.cc.kept hg (ownsRow_apart T.cc T.cols (by decide))) B (by decide) _ _, own_put (T.uu.kept hg (ownsRow_apart T.uu T.cols (by decide))) B (by decide) _ _,  fun j hj => own_put ((T.crow j hj).kept hg (ownsRow_apart (T.crow j hj) T.cols (by decide))) B (by decide) _ _, fun j hj => own_put ((T.urow j hj).kept hg (ownsRow_apart (T.urow j hj) T.cols (by decide))) B (by decide) _ _,
    T.a1.grown T.rows hat, T.a2, T.a5, T.a6, (T.ext.grown hg fun k e => (T.cols.lt k e).1).setCell T.hg _, T.hg⟩
/-- a rest more -/
theorem T7.addU (T : T7 w0 w g R K C U rv cv Cv Uv cs us) {v' u : Value} {l : List Int} (hown : w1.ownsRow w0.heap.size 23 1 v' (U.length + 1) (us ++ [u])) (hg : w.grownBy w1 Uv.ownBlock) (hat : v'.ownBlock = Uv.ownBlock ∨ v'.ownBlock = some w.heap.size)
    (hu : w.ownsRow w0.heap.size 22 1 u l.length (l.map (Value.int .u64))) (hc : ∀ j, j < C.length → Ap (cs.getD j undef) u) :
    T7 w0 (w1.setCell ⟨g, 3, none⟩ v') g R K C (U ++ [l]) rv cv Cv v' cs (us ++ [u]) := by
  have B := T.box' T.uu (by decide) hg
  have hlu := T.lu
  refine ⟨B.set_ 3 v', own_put (T.rows.kept hg (ownsRow_apart T.rows T.uu (by decide))) B (by decide) _ _, own_put (T.cols.kept hg (ownsRow_apart T.cols T.uu (by decide))) B (by decide) _ _, own_put (T.cc.kept hg T.a2) B (by decide) _ _, own_put (by rw [List.length_append]; exact hown) B (by decide) _ _,  fun j hj => own_put ((T.crow j hj).kept hg (ownsRow_apart (T.crow j hj) T.uu (by decide))) B (by decide) _ _, fun j hj => ?_,
    T.a1, T.a2.grown T.cc hat, T.a5, fun j k hj hk => ?_, (T.ext.grown hg fun k e => (T.uu.lt k e).1).setCell T.hg _, T.hg⟩
  · rw [List.length_append, List.length_cons, List.length_nil] at hj
    rw [getD_snoc, getD_snoc]
    by_cases e : j < U.length
    · rw [if_pos (by omega), if_pos e]
      exact own_put ((T.urow j e).kept hg (ownsRow_apart (T.urow j e) T.uu (by decide))) B (by decide) _ _
    · rw [if_neg (by omega), if_neg e, if_pos (by omega), if_pos (by omega)]
      exact own_put (hu.kept hg (ownsRow_apart hu T.uu (by decide))) B (by decide) _ _
  · rw [List.length_append, List.length_cons, List.length_nil] at hk
    rw [getD_snoc]
    by_cases e : k < U.length
    · rw [if_pos (by omega)]; exact T.a6 j k hj e
    · rw [if_neg (by omega), if_pos (by omega)]; exact hc j hj
/-- a row's multiples more -/
theorem T7.addC (T : T7 w0 w g R K C U rv cv Cv Uv cs us) {v' u : Value} {l : List Int} (hown : w1.ownsRow w0.heap.size 23 1 v' (C.length + 1) (cs ++ [u])) (hg : w.grownBy w1 Cv.ownBlock) (hat : v'.ownBlock = Cv.ownBlock ∨ v'.ownBlock = some w.heap.size)
    (hu : w.ownsRow w0.heap.size 22 1 u l.length (l.map (Value.int .u64))) (hc : ∀ j, j < C.length → Ap (cs.getD j undef) u) (hU : ∀ j, j < U.length → Ap u (us.getD j undef)) :
    T7 w0 (w1.setCell ⟨g, 2, none⟩ v') g R K (C ++ [l]) U rv cv v' Uv (cs ++ [u]) us := by
  have B := T.box' T.cc (by decide) hg
  have hlc := T.lc
  refine ⟨B.set_ 2 v', own_put (T.rows.kept hg (ownsRow_apart T.rows T.cc (by decide))) B (by decide) _ _, own_put (T.cols.kept hg (ownsRow_apart T.cols T.cc (by decide))) B (by decide) _ _, own_put (by rw [List.length_append]; exact hown) B (by decide) _ _, own_put (T.uu.kept hg T.a2.symm) B (by decide) _ _,  fun j hj => ?_, fun j hj => own_put ((T.urow j hj).kept hg (ownsRow_apart (T.urow j hj) T.cc (by decide))) B (by decide) _ _,
    T.a1, (T.a2.symm.grown T.uu hat).symm, fun j k hj hk hjk => ?_, fun j k hj hk => ?_, (T.ext.grown hg fun k e => (T.cc.lt k e).1).setCell T.hg _, T.hg⟩
  · rw [List.length_append, List.length_cons, List.length_nil] at hj
    rw [getD_snoc, getD_snoc]
    by_cases e : j < C.length
    · rw [if_pos (by omega), if_pos e]
      exact own_put ((T.crow j e).kept hg (ownsRow_apart (T.crow j e) T.cc (by decide))) B (by decide) _ _
    · rw [if_neg (by omega), if_neg e, if_pos (by omega), if_pos (by omega)]
      exact own_put (hu.kept hg (ownsRow_apart hu T.cc (by decide))) B (by decide) _ _
  · rw [List.length_append, List.length_cons, List.length_nil] at hj hk
    rw [getD_snoc, getD_snoc]
    by_cases e : j < C.length
    · rw [if_pos (by omega)]
      by_cases e2 : k < C.length
      · rw [if_pos (by omega)]; exact T.a5 j k e e2 hjk
      · rw [if_neg (by omega), if_pos (by omega)]; exact hc j e
    · rw [if_neg (by omega), if_pos (by omega), if_pos (by omega)]
      exact (hc k (by omega)).symm
  · rw [List.length_append, List.length_cons, List.length_nil] at hj
    rw [getD_snoc]
    by_cases e : j < C.length
    · rw [if_pos (by omega)]; exact T.a6 j k e hk
    · rw [if_neg (by omega), if_pos (by omega)]; exact hU k hk
end
/-- one of the rows of multiples is told anew -/
theorem T7.setC {w0 w w1 : World} {g : Nat} {R K : List Int} {C U : List (List Int)} {rv cv Uv : Value} {gc N cap : Nat} {cs us : List Value} (T : T7 w0 w g R K C U rv cv (.slice (some ⟨gc, 0, none⟩) N cap) Uv cs us) (hN : C.length = N) {v' : Value} {l : List Int} {j : Nat} (hj : j < N)
    (hown : w1.ownsRow w0.heap.size 22 1 v' l.length (l.map (Value.int .u64))) (hg : w.grownBy w1 (cs.getD j undef).ownBlock) (hat : v'.ownBlock = (cs.getD j undef).ownBlock ∨ v'.ownBlock = some w.heap.size) :
    T7 w0 (w1.setCell ⟨gc, j, none⟩ v') g R K (C.set j l) U rv cv (.slice (some ⟨gc, 0, none⟩) N cap) Uv (cs.set j v') us := by
  subst hN
  have hlc := T.lc
  have TC := T.crow j hj
  have B := T.box' TC (by decide) hg
  have c1 := T.cc.kept hg (ownsRow_apart T.cc TC (by decide))
  have gs := setCell_grown w1 ⟨gc, j, none⟩ v'
  have r1 := T.rows.kept hg (ownsRow_apart T.rows TC (by decide))
  have k1 := T.cols.kept hg (ownsRow_apart T.cols TC (by decide))
  have u1 := T.uu.kept hg (ownsRow_apart T.uu TC (by decide))
  refine ⟨B.grown gs (by
      rcases ownsRow_blk c1 B (by decide) with e | e
      · simp [Value.ownBlock] at e
      · exact e), r1.kept gs (ownsRow_apart r1 c1 (by decide)), k1.kept gs (ownsRow_apart k1 c1 (by decide)), by rw [List.length_set]; exact (c1.stored j v').1, u1.kept gs T.a2.symm, fun t ht => ?_, fun t ht => ?_,
    T.a1, T.a2, fun t q ht hq htq => ?_, fun t q ht hq => ?_, (T.ext.grown hg fun k e => (TC.lt k e).1).setCell (T.cc.lt gc rfl).1 _, T.hg⟩
  · rw [List.length_set] at ht
    rw [getD_set7 cs j t v' undef (by omega), getD_set7 C j t l [] hj]
    by_cases e : j = t
    · rw [if_pos e, if_pos e]
      exact hown.kept gs (ownsRow_apart hown c1 (by decide))
    · rw [if_neg e, if_neg e]
      have h1 := (T.crow t ht).kept hg (T.a5 t j ht hj (fun h => e h.symm))
      exact h1.kept gs (ownsRow_apart h1 c1 (by decide))
  · have h1 := (T.urow t ht).kept hg (T.a6 j t hj ht).symm
    exact h1.kept gs (ownsRow_apart h1 c1 (by decide))
  · rw [List.length_set] at ht hq
    rw [getD_set7 cs j t v' undef (by omega), getD_set7 cs j q v' undef (by omega)]
    by_cases e : j = t
    · rw [if_pos e]
      by_cases e2 : j = q
      · exact absurd (e.symm.trans e2) htq
      · rw [if_neg e2]
        exact (Ap.grown (T.a5 q j hq hj (fun h => e2 h.symm)) (T.crow q hq) hat).symm
    · rw [if_neg e]
      by_cases e2 : j = q
      · rw [if_pos e2]
        exact Ap.grown (T.a5 t j ht hj (fun h => e h.symm)) (T.crow t ht) hat
      · rw [if_neg e2]; exact T.a5 t q ht hq htq
  · rw [List.length_set] at ht
    rw [getD_set7 cs j t v' undef (by omega)]
    by_cases e : j = t
    · rw [if_pos e]; exact (Ap.grown (T.a6 j q hj hq).symm (T.urow q hq) hat).symm
    · rw [if_neg e]; exact T.a6 t q ht hq

/-- the state, in memory -/
def T7S (w0 w : World) (g : Nat) (st : ElE) : Prop := ∃ rv cv Cv Uv cs us, T7 w0 w g (rowsZ st) (colsZ st) st.C st.U rv cv Cv Uv cs us
end Go.Proofs.Ytnfnommiabalfaa
/- The document's own answer of layer 7, Take: the rows and the columns that count. -/
namespace Go.Proofs.Ytnfnommiabalfaa
open Go.RowKit Go.Maps

/-- what a call answers: rows and columns that count, among other parts -/
def RetT7 (R K : List Int) (w : World) (e : Ending) (w' : World) : Prop := ∃ (rv cv : Value) (a1 : Option Addr) (l1 c1 : Nat) (a2 : Option Addr) (l2 c2 : Nat), e = .returned (.tuple #[.agg #[rv, cv, .slice a1 l1 c1, .slice a2 l2 c2], .int .i64 0]) ∧ Ints .i64 w' rv R ∧ Ints .i64 w' cv K ∧ Ext w w'
/-- a list, zeros behind -/
def GetsL (d c : List Int) : Prop := c.length ≤ d.length ∧ ∀ i, d.getD i 0 = c.getD i 0
/-- .. what makes a row of the rests among them -/
def RetT7C (st : ElE) (w : World) (e : Ending) (w' : World) : Prop := ∃ (rv cv : Value) (a1 : Option Addr) (l1 c1 : Nat) (a2 : Option Addr) (l2 c2 : Nat) (D : List (List Int)) (ds : List Value), e = .returned (.tuple #[.agg #[rv, cv, .slice a1 l1 c1, .slice a2 l2 c2], .int .i64 0]) ∧ Ints .i64 w' rv (rowsZ st) ∧ Ints .i64 w' cv (colsZ st) ∧
  l1 = st.C.length ∧ (0 < l1 → ∃ g, a1 = some ⟨g, 0, none⟩ ∧ g < w'.heap.size ∧ ∀ j, j < l1 → w'.cell? ⟨g, j, none⟩ = some (ds.getD j undef)) ∧ (∀ j, j < l1 → Ints .u64 w' (ds.getD j undef) (D.getD j []) ∧ (D.getD j []).length ≤ st.U.length ∧ GetsL (D.getD j []) (st.C.getD j [])) ∧ Ext w w'
theorem row_take {n i : Nat} {xs : List Int} (h : i * n + n ≤ xs.length) : (xs.drop (i * n)).take n = rowOf n xs i :=
  list_ext (by simp [rowOf, tab_len]; omega) fun j hj => by
    have hj' : j < n := by simp at hj; omega
    rw [sub_get _ _ _ _ hj']
    exact (show (rowOf n xs i).getD j 0 = xs.getD (i * n + j) 0 from tab_get _ hj').symm
/-- rows of a slice of slices -/
theorem usl_of {w : World} {base n : Nat} {v : Value} {us : List Value} {ls : List (List Int)} (h : w.ownsRow base 23 1 v n us) (hl : ls.length = n) (hc : ∀ j, j < n → Ints .u64 w (us.getD j undef) (ls.getD j [])) : UsL w v ls := by
  obtain ⟨a, cap, rfl, _, k1, k2, q⟩ := own_slice h
  subst hl
  refine ⟨a, cap, rfl, k1, k2, fun hp => ?_⟩
  obtain ⟨g, rfl, _, hg, hcell⟩ := q hp
  exact ⟨g, 0, rfl, hg, fun j hj => ⟨_, by rw [Nat.zero_add]; exact hcell j hj, hc j hj⟩⟩
/-- .. all that is told: each row of multiples as long as there are rests, and the rests -/
def RetT7F (st : ElE) (w : World) (e : Ending) (w' : World) : Prop := ∃ (rv cv : Value) (a1 : Option Addr) (l1 c1 : Nat) (a2 : Option Addr) (l2 c2 : Nat) (D : List (List Int)) (ds : List Value), e = .returned (.tuple #[.agg #[rv, cv, .slice a1 l1 c1, .slice a2 l2 c2], .int .i64 0]) ∧ Ints .i64 w' rv (rowsZ st) ∧ Ints .i64 w' cv (colsZ st) ∧
  l1 = st.C.length ∧ (0 < l1 → ∃ g, a1 = some ⟨g, 0, none⟩ ∧ g < w'.heap.size ∧ ∀ j, j < l1 → w'.cell? ⟨g, j, none⟩ = some (ds.getD j undef)) ∧ (∀ j, j < l1 → Ints .u64 w' (ds.getD j undef) (D.getD j []) ∧ (D.getD j []).length ≤ st.U.length ∧ GetsL (D.getD j []) (st.C.getD j [])) ∧
  (∀ j, j < l1 → (D.getD j []).length = st.U.length) ∧ D.length = l1 ∧ UsL w' (.slice a1 l1 c1) D ∧ UsL w' (.slice a2 l2 c2) st.U ∧ Ext w w'
set_option maxRecDepth 100000 in
set_option maxHeartbeats 4000000 in
theorem r7TakeF (p : Int) (m n : Nat) (v : Value) (xs : List Int) (w : World) (ok : MatOk p m n xs) (hf : Fld p) (hv : Ints .u64 w v xs) :
    Calls Try.prog 20 #[.int .u64 p, matV m n v] w (RetT7F (takeL p m n xs) w) := by
  have hp2 := rightB_true ok.hp
  have hm := ok.hm; have hn := ok.hn
  have HP := hid ok.hp; have HF := hid hf; have Hx := hid ok.hx; have Hl := hid ok.hl
  have hall := hid (takeL_some (m := m) (n := n) hp2.1 hf ok.hx)
  obtain ⟨iu, hiu, hu0, hu1, hu2⟩ := info_parts info_u64p
  obtain ⟨ii, hii, hi0, hi1, hi2⟩ := info_parts info_i64p
  obtain ⟨ir, hir, hr0, hr1, hr2⟩ := info_parts info_rows
  have Hv := hid hv
  have el := ok.hl
  obtain ⟨a, cap, rfl, k1, k2, k3⟩ := hv
  have K3 := hid k3
  clear k3 ok hf
  obtain ⟨L0, eL0⟩ : ∃ q, xs.length = q := ⟨_, rfl⟩
  rw [eL0] at k1 el
  have EL0 := hid eL0
  rw [eL0] at Hv
  have El := hid el
  unfold matV
  rw [eL0]
  clear eL0 el
  go_enter Try.func20, Try.ntmps20
  go_wp2_with fail
  obtain ⟨zc, hzc⟩ : ∃ z : Array Value, #[Value.slice none 0 0, Value.slice none 0 0, Value.slice none 0 0, Value.slice none 0 0] = z := ⟨_, rfl⟩
  have hB1 := (Blk.new w 25 #[.int .i64 (m : Int), .int .i64 (n : Int), .slice a L0 cap]).ext ((Ext.refl _).alloc (.cells #[.slice none 0 0, .slice none 0 0, .slice none 0 0, .slice none 0 0] 29))
  have hB2 := Blk.new (w.alloc (.cells #[.int .i64 (m : Int), .int .i64 (n : Int), .slice a L0 cap] 25)) 29 #[.slice none 0 0, .slice none 0 0, .slice none 0 0, .slice none 0 0]
  have hx2 : Ext w ((w.alloc (.cells #[.int .i64 (m : Int), .int .i64 (n : Int), .slice a L0 cap] 25)).alloc (.cells #[.slice none 0 0, .slice none 0 0, .slice none 0 0, .slice none 0 0] 29)) := ((Ext.refl w).alloc _).alloc _
  have e2 : ((w.alloc (.cells #[.int .i64 (m : Int), .int .i64 (n : Int), .slice a L0 cap] 25)).alloc (.cells #[.slice none 0 0, .slice none 0 0, .slice none 0 0, .slice none 0 0] 29)).heap.size = w.heap.size + 1 + 1 := by rw [alloc_size, alloc_size]
  have e1 : (w.alloc (.cells #[.int .i64 (m : Int), .int .i64 (n : Int), .slice a L0 cap] 25)).heap.size = w.heap.size + 1 := by rw [alloc_size]
  rw [e1] at hB2
  obtain ⟨w2, hw2⟩ : ∃ w2, ((w.alloc (.cells #[.int .i64 (m : Int), .int .i64 (n : Int), .slice a L0 cap] 25)).alloc (.cells #[.slice none 0 0, .slice none 0 0, .slice none 0 0, .slice none 0 0] 29)) = w2 := ⟨_, rfl⟩
  rw [hw2] at hB1 hB2 hx2 e2
  rw [hw2]
  obtain ⟨g1, hg1⟩ : ∃ g, w.heap.size = g := ⟨_, rfl⟩
  rw [hg1] at hB1 hB2 e2
  rw [hg1]
  obtain ⟨g2, hg2⟩ : ∃ g, g1 + 1 = g := ⟨_, rfl⟩
  rw [hg2] at hB2 e2
  rw [hg2]
  obtain ⟨g, hg⟩ : ∃ g, g2 + 1 = g := ⟨_, rfl⟩
  rw [hg] at e2
  rw [hg]
  have hB3 := Blk.new w2 29 #[.slice none 0 0, .slice none 0 0, .slice none 0 0, .slice none 0 0]
  have hx3 : Ext w2 (w2.alloc (.cells #[.slice none 0 0, .slice none 0 0, .slice none 0 0, .slice none 0 0] 29)) := (Ext.refl w2).alloc _
  obtain ⟨w3, hw3⟩ : ∃ w3, w2.alloc (.cells #[.slice none 0 0, .slice none 0 0, .slice none 0 0, .slice none 0 0] 29) = w3 := ⟨_, rfl⟩
  rw [e2] at hB3
  rw [hw3] at hB3 hx3
  rw [hw3]
  have HT0 := hid (show T7S w2 w3 g .nil from ⟨_, _, _, _, [], [], hB3, World.ownsRow_nil _ _ _ _, World.ownsRow_nil _ _ _ _, World.ownsRow_nil _ _ _ _, World.ownsRow_nil _ _ _ _, fun j h => absurd h (Nat.not_lt_zero _), fun j h => absurd h (Nat.not_lt_zero _), .inl rfl, .inl rfl, fun j k h => absurd h (Nat.not_lt_zero _), fun j k h => absurd h (Nat.not_lt_zero _), hx3, by omega⟩)
  have HB1 := hid hB1; have HB2 := hid hB2; have Hx2 := hid hx2
  have hgw : w.heap.size ≤ g2 := by omega
  clear hzc hw2 hg1 hg2 hg hw3 e1 e2 hB1 hB2 hB3 hx2 hx3
  go_loopw [7] (fun iv wr => ∃ (i : Nat) (st : ElE), iv = .int .i64 i ∧ i ≤ m ∧ Hid (takeE p n (rowOf n xs) i = some st) ∧ Hid (T7S w2 wr g st)) (fun iv _ => m - (intOf iv).toNat)
  case atStart => exact ⟨0, .nil, rfl, Nat.zero_le _, hid rfl, HT0⟩
  case round =>
    obtain ⟨i, st, rfl, hi', hst, HT⟩ := hrel
    rename World => wo
    obtain ⟨rv, cv, Cv, Uv, cs, us, T⟩ := HT.out
    have hxo := T.ext
    obtain ⟨c0, c1, c2⟩ := (HB1.out.ext hxo).at3
    by_cases hlt : i < m
    · have ok := hid (takeE_ok (n := n) (R := rowOf n xs) hp2.1 i (fun i _ => rowOf_rng hp2.1 Hx.out i) hst.out)
      obtain ⟨st', hst'⟩ := takeE_some (p := p) (n := n) (R := rowOf n xs) hp2.1 HF.out (i + 1) fun i _ => rowOf_rng hp2.1 Hx.out i
      have Hst' := hid hst'
      have hs : stepE p n st i (rowOf n xs i) = some st' := by
        simp only [takeE] at hst'
        rw [hst.out] at hst'
        exact hst'
      clear hst'
      have hyr := rowOf_rng (n := n) hp2.1 Hx.out i
      have HE := hid (elimE_ok hp2.1 hyr.1 hyr.2 rfl (fun k hk => ⟨(ok.out.row k hk).1, (ok.out.row k hk).2.1, (ok.out.row k hk).2.2.1, (ok.out.row k hk).2.2.2.1⟩) ok.out.zero)
      have hlin : i * n + n ≤ L0 := by
        rw [El.out]
        calc i * n + n = (i + 1) * n := by rw [Nat.succ_mul]
          _ ≤ m * n := Nat.mul_le_mul_right _ hlt
      have hL0 : 0 < L0 := by omega
      obtain ⟨b, off, rfl, hb, hc⟩ := K3.out (by rw [EL0.out]; exact hL0)
      have hpc : Ints .u64 w (.slice (some ⟨b, off + i * n, none⟩) n (cap - i * n)) (rowOf n xs i) := by
        have h := Hv.out.sub (i * n) n (by rw [EL0.out]; exact hlin) (by omega)
        rwa [row_take (by rw [EL0.out]; exact hlin)] at h
      have hq4 : i * n ≤ 4096 := Nat.mul_le_mul (by omega : i ≤ 64) hn.2
      obtain ⟨ys, eys⟩ : ∃ ys, rowOf n xs i = ys := ⟨_, rfl⟩
      rw [eys] at hs hyr HE hpc
      obtain ⟨q, hq⟩ : ∃ q, i * n = q := ⟨_, rfl⟩
      rw [hq] at hlin hpc hq4
      have hqi : (i : Int) * (n : Int) = (q : Int) := by rw [← hq]; push_cast; rfl
      obtain ⟨qe, hqe⟩ : ∃ z, q + n = z := ⟨_, rfl⟩
      have hqs : ((i : Int) + 1) * (n : Int) = (qe : Int) := by rw [Int.add_mul, hqi, ← hqe]; push_cast; omega
      have esub : qe - q = n := by omega
      have hqb : qe ≤ 4160 := by omega
      have hsl := fun W => slice_run b off L0 cap q qe (by omega) (by omega) (by omega) W
      have hsl' := fun W => slice_run' b off L0 cap q qe (by omega) (by omega) (by omega) W
      rw [esub] at hsl hsl'
      have Hpc := hid hpc; have Hs := hid hs; have Hyr := hid hyr; have Eys := hid eys
      obtain ⟨r, er⟩ : ∃ r, st.U.length = r := ⟨_, rfl⟩
      have Er := hid er
      have e1 : (rowsZ st).length = r := by have := ok.out.lr; simp [rowsZ]; omega
      have e2 : (colsZ st).length = r := by have := ok.out.lk; simp [colsZ]; omega
      have e4 := ok.out.lc
      have hri : r ≤ i := by have := ok.out.le; omega
      have T1 := T.rows; have T2 := T.cols; have T3 := T.cc; have T4 := T.uu
      rw [e1] at T1; rw [e2] at T2; rw [e4] at T3; rw [er] at T4
      obtain ⟨ar, cr, rfl, -, -, -, -⟩ := own_slice T1
      obtain ⟨ak, ck, rfl, -, -, -, K2⟩ := own_slice T2
      obtain ⟨ac, cc, rfl, -, -, -, -⟩ := own_slice T3
      obtain ⟨au, cu, rfl, -, -, -, K4⟩ := own_slice T4
      have HK2 := hid K2; have HK4 := hid K4
      have E1 := hid e1; have E2 := hid e2; have E4 := hid e4
      clear T1 T2 T3 T4 K2 K4 e1 e2 e4 er
      have HT1 := hid T
      obtain ⟨d0, d1, d2⟩ := (HB1.out.ext (hxo.alloc (.cells #[] 22))).at3
      have hs0 := hxo.size
      have hso : w2.heap.size ≤ wo.heap.size := hs0
      have hxw := Hx2.out.trans hxo
      have Hxw := hid hxw
      have hlit := hid (World.ownsRow_lit (base := wo.heap.size) (e := 22) (size := 1) wo #[] 0 (Nat.le_refl _) (by decide) rfl)
      clear hq hqe esub hpc hs hyr eys hxw T hxo hb hc
      go_wp2_with (at_builtin; refine wpList_append_ints rfl _ _ 23 rfl wo.heap.size 22 iu (.int .u64 0) 8 Try.underlying23 hiu hu0 hu1 hu2 rfl _ 0 [] rfl hlit.out _ ys rfl (Hpc.out.ext (Hxw.out.alloc _)) (by rw [Hyr.out.1]; simp only [maxLen]; omega) (by rw [Hyr.out.1]; omega) (by simp) ?_; intro v5 w5 hown5 hgrow5)
      have h5 : w5.ownsRow wo.heap.size 22 1 v5 n (ys.map (Value.int .u64)) := by
        have h := hown5
        rw [Nat.zero_add, List.nil_append, Hyr.out.1] at h
        exact h
      have x5 : Ext wo w5 := ((Ext.refl wo).alloc (.cells #[] 22)).grown hgrow5 (fun k e => (hlit.out.lt k e).1)
      obtain ⟨x0, xc0, rfl, -, -, -, KX⟩ := own_slice h5
      obtain ⟨xb0, rfl, -, -, -⟩ := KX (by omega)
      have H5 := hid h5; have X5 := hid x5
      clear h5 x5 KX hown5 hgrow5 hlit d0 d1 d2 c0 c1 c2
      go_loopw [10, 8, 9] (fun kv xv lv wr => ∃ (k xb xc : Nat) (la : Option Addr) (lc : Nat), kv = .int .i64 k ∧ xv = .slice (some ⟨xb, 0, none⟩) n xc ∧ lv = .slice la k lc ∧ k ≤ r ∧ Hid (wr.ownsRow wo.heap.size 22 1 (.slice (some ⟨xb, 0, none⟩) n xc) n ((elimE p n st.U st.cols ys k).2.map (Value.int .u64))) ∧ Hid (wr.ownsRow wo.heap.size 22 1 (.slice la k lc) k ((elimE p n st.U st.cols ys k).1.map (Value.int .u64))) ∧ Hid (Ap (.slice la k lc) (.slice (some ⟨xb, 0, none⟩) n xc)) ∧ Hid (Ext wo wr)) (fun kv _ _ _ => r - (intOf kv).toNat)
      case atStart => exact ⟨0, xb0, xc0, none, 0, rfl, rfl, rfl, Nat.zero_le _, H5, hid (World.ownsRow_nil _ _ _ _), hid (.inl rfl), X5⟩
      case round =>
        obtain ⟨k, xb, xc, la, lc, rfl, rfl, rfl, hk, hrw, htk, hap, hxr⟩ := hrel
        rename World => wr
        by_cases hlk : k < r
        · have Tr := HT1.out.ext' hxr.out
          have FE := HE.out k (by rw [Er.out]; omega)
          have hEs : elimE p n st.U st.cols ys (k + 1) = ((elimE p n st.U st.cols ys k).1 ++ [mulE p (st.U.getD k []) (st.cols.getD k 0) (elimE p n st.U st.cols ys k).2], restE p n (st.U.getD k []) (st.cols.getD k 0) (elimE p n st.U st.cols ys k).2) := rfl
          have RW := ok.out.row k (by rw [Er.out]; exact hlk)
          have UR := Tr.urow k (by rw [Er.out]; exact hlk)
          obtain ⟨gk, rfl, -, hgk, q2⟩ := HK2.out (by omega)
          have q2 := (hxr.out.cells _ _ hgk).trans (q2 k hlk)
          obtain ⟨gu, rfl, -, hgu, q4⟩ := HK4.out (by omega)
          have q4 := (hxr.out.cells _ _ hgu).trans (q4 k hlk)
          rw [List.getD, List.getElem?_map, List.getElem?_eq_getElem (show k < (colsZ st).length by rw [E2.out]; exact hlk)] at q2
          have ha1 : (colsZ st)[k]'(by rw [E2.out]; exact hlk) = (st.cols.getD k 0 : Int) := by
            have hkl : k < st.cols.length := by have := ok.out.lk; have := Er.out; omega
            simp [colsZ, List.getD, hkl]
          simp only [Option.map_some, Option.getD_some, ha1] at q2
          have hzr := minv_range p ((st.U.getD k []).getD (st.cols.getD k 0) 0) hp2.1
          clear ha1
          obtain ⟨e, ee⟩ : ∃ e, elimE p n st.U st.cols ys k = e := ⟨_, rfl⟩
          obtain ⟨u, eu⟩ : ∃ u, st.U.getD k [] = u := ⟨_, rfl⟩
          obtain ⟨a, ea⟩ : ∃ a, st.cols.getD k 0 = a := ⟨_, rfl⟩
          rw [ee] at htk hrw hEs FE
          rw [eu, ea] at hEs RW hzr
          rw [eu] at UR
          rw [ea] at q2
          obtain ⟨f1, f2, f3, f4, -, -⟩ := FE
          obtain ⟨u1, u2, han, u4, -, -⟩ := RW
          rw [u1] at UR
          obtain ⟨ua, cu2, eU, -, -, -, KU⟩ := own_slice UR
          obtain ⟨ub, rfl, -, hub, KU⟩ := KU (by omega)
          rw [eU] at q4
          have KUc : ∀ j, j < n → wr.cell? ⟨ub, j, none⟩ = some (.int .u64 (u.getD j 0)) := fun j hj => by
            rw [KU j hj]
            simp [List.getD, show j < u.length by omega]
          have KXc : ∀ j, j < n → wr.cell? ⟨xb, j, none⟩ = some (.int .u64 (e.2.getD j 0)) := fun j hj => by
            rw [hrw.out.cellAt j (by omega)]
            simp [List.getD, show j < e.2.length by omega]
          have hxb : xb < wr.heap.size := (hrw.out.lt xb rfl).2
          have qa := KUc a han
          have qx := KXc a han
          obtain ⟨ua, eua⟩ : ∃ z, u.getD a 0 = z := ⟨_, rfl⟩
          obtain ⟨z, ez⟩ : ∃ z, minv p ua = z := ⟨_, rfl⟩
          obtain ⟨y, ey⟩ : ∃ y, e.2.getD a 0 = y := ⟨_, rfl⟩
          have rua := u2.getD hp2.1 a
          have ry := f4.getD hp2.1 a
          rw [eua] at qa u4 hzr rua
          rw [ez] at hzr
          rw [ey] at qx ry
          have CI := hid fun (W : World) => (ez ▸ rInv_yes p ua W HP.out rua.1 rua.2 u4 : Calls Try.prog 49 #[.int .u64 p, .int .u64 ua] W (Ret (.tuple #[.int .u64 z, .int .i64 0]) W))
          have hq : mulE p u a e.2 = y * z % p := by unfold mulE; rw [ey, eua, ez]
          obtain ⟨q, eq, q0, q1⟩ := name_mod (p := p) (y * z) hp2.1
          rw [eq] at hq
          rw [hq] at hEs
          obtain ⟨F, hF⟩ : ∃ F : Nat → Int, (fun j => (e.2.getD j 0 - q * u.getD j 0 % p) % p) = F := ⟨_, rfl⟩
          have hres : restE p n u a e.2 = tab n F := by unfold restE; rw [hq, hF]
          rw [hres] at hEs
          have HFj := hid fun j => (congrFun hF j : (e.2.getD j 0 - q * u.getD j 0 % p) % p = F j)
          obtain ⟨c0, c1, c2⟩ := (HB1.out.ext (HT1.out.ext.trans hxr.out)).at3
          obtain ⟨b0, b1, b2, b3⟩ := Tr.at4
          have Tr' := hid Tr
          have fs := hid (fun (W : World) (hW : Ext wr W) => And.intro ((hW.cells _ _ (cell_lt b1)).trans b1) (And.intro ((hW.cells _ _ (cell_lt b3)).trans b3) (And.intro ((hW.cells _ _ (cell_lt c1)).trans c1) (And.intro ((hW.cells _ _ (cell_lt q4)).trans q4) ((hW.cells _ _ (cell_lt qx)).trans qx)))))
          have ku := hid (fun (W : World) (hW : Ext wr W) (j : Nat) (hj : j < n) => And.intro ((hW.cells _ _ hub).trans (KUc j hj)) ((hW.cells _ _ hxb).trans (KXc j hj)))
          have Eq := hid eq; have HEs := hid hEs; have U2 := hid u2; have F4 := hid f4
          have Hr4 := hid (show ∀ j, 0 ≤ e.2.getD j 0 ∧ e.2.getD j 0 < p from fun j => f4.getD hp2.1 j)
          have Hu4 := hid (show ∀ j, 0 ≤ u.getD j 0 ∧ u.getD j 0 < p from fun j => u2.getD hp2.1 j)
          clear Tr UR KU KUc KXc hub hxb eua ez ey eq hEs hres hq hF eU ee eu ea u2 f4 u1 u4 f1 f2 f3 rua
          go_wp2_with (first
            | (go_at_call 49; refine (CI.out _).mono ?_; rintro _ w6 ⟨rfl, x6⟩
               obtain ⟨p1, p3, p4, p5, p6⟩ := fs.out w6 x6)
            | (go_at_call 50; refine (rMul p y z q _ HP.out ry.1 ry.2 hzr.1 (by omega) Eq.out).mono ?_; rintro _ _ ⟨rfl, rfl⟩))
          have Tr6 := hid (Tr'.out.ext' x6)
          have lw6 := hid (ownsRow_ext htk.out x6)
          have rw6 := hid (ownsRow_ext hrw.out x6)
          have X6 := hid x6
          have hsr := hxr.out.size
          have hs6 := x6.size
          clear CI b0 b1 b2 b3 c0 c1 c2 q2 qa qx q4 hgk hgu Eq hzr ry p1 p3 p4 p5 p6
          go_loopw [16, 15] (fun jv nv wj => ∃ (j : Nat) (na : Option Addr) (nc : Nat), jv = .int .i64 j ∧ nv = .slice na j nc ∧ j ≤ n ∧ Hid (wj.ownsRow w6.heap.size 22 1 (.slice na j nc) j ((tab j F).map (Value.int .u64))) ∧ Hid (Ext w6 wj)) (fun jv _ _ => n - (intOf jv).toNat)
          case atStart => exact ⟨0, none, 0, rfl, rfl, Nat.zero_le _, hid (World.ownsRow_nil _ _ _ _), hid (Ext.refl _)⟩
          case round =>
            obtain ⟨j, na, nc, rfl, rfl, hj, hnw, hxj⟩ := hrel
            rename World => wj
            obtain ⟨c1, b3, p3, p4, p5⟩ := (show wj.cell? ⟨g, 1, none⟩ = _ ∧ wj.cell? ⟨g, 3, none⟩ = _ ∧ wj.cell? ⟨g1, 1, none⟩ = _ ∧ wj.cell? ⟨gu, k, none⟩ = _ ∧ _ from fs.out wj (X6.out.trans hxj.out))
            by_cases hlj : j < n
            · obtain ⟨ku1, kx1⟩ := ku.out wj (X6.out.trans hxj.out) j hlj
              have hF := HFj.out j
              have re := Hr4.out j
              have ru := Hu4.out j
              obtain ⟨ej, ee⟩ : ∃ z, e.2.getD j 0 = z := ⟨_, rfl⟩
              obtain ⟨uj, eu⟩ : ∃ z, u.getD j 0 = z := ⟨_, rfl⟩
              rw [ee] at kx1 re hF
              rw [eu] at ku1 ru hF
              obtain ⟨s, es, s0, s1⟩ := name_mod (p := p) (q * uj) hp2.1
              rw [es] at hF
              obtain ⟨f, ef, f0, f1⟩ := name_mod (p := p) (ej - s) hp2.1
              rw [ef] at hF
              have happ := hid (show ((tab j F).map (Value.int .u64)) ++ [Value.int .u64 f] = (tab (j + 1) F).map (Value.int .u64) by rw [tab_succ, List.map_append, ← hF]; rfl)
              have Es := hid es; have Ef := hid ef
              have hsz := hxj.out.size
              have gs := hid (fun (W : World) (hW : Ext wj W) => And.intro ((hW.cells _ _ (cell_lt p4)).trans p4) (And.intro ((hW.cells _ _ (cell_lt b3)).trans b3) (And.intro ((hW.cells _ _ (cell_lt ku1)).trans ku1) ((hW.cells _ _ (cell_lt kx1)).trans kx1))))
              clear ee eu es ef hF
              go_wp2_with fail
              go_region_law (first
                | (refine step_append_at _ rfl (.tmp 79) (.tmp 97) 23 rfl w6.heap.size 22 iu (.int .u64 0) 1 8 Try.underlying23 hiu hu0 hu1 hu2 rfl (by decide) (.slice na j nc) j ((tab j F).map (Value.int .u64)) (by simp [Act.eval]) (ownsRow_ext hnw.out (((Ext.refl wj).drew).alloc _)) ⟨wj.heap.size, 0, none⟩ 1 1 [.int .u64 f] (by simp [Act.eval]) rfl (cells_new _ _ _ (by simp)) (by simp [Value.oneCell']) (by simp only [maxLen]; omega) (by omega) (by simp at hsz ⊢; omega) ?_
                   intro v7 w7 hown7 hgrow7 hat7
                   rw [happ.out] at hown7
                   have Hown7 := hid hown7
                   have Hgrow7 := hid hgrow7
                   obtain ⟨a7, c7, rfl, -, -, -, -⟩ := own_slice hown7
                   clear hown7 hgrow7)
                | (go_simp; go_at_call 50; refine (rMul p q uj s _ HP.out q0 q1 ru.1 (by omega) Es.out).mono ?_; rintro _ _ ⟨rfl, rfl⟩)
                | (go_simp; go_at_call 51; refine (rSub p ej s f _ HP.out re.1 re.2 s0 s1 Ef.out).mono ?_; rintro _ _ ⟨rfl, rfl⟩))
              all_goals
                have x7 : Ext w6 w7 := (hxj.out.trans (((Ext.refl wj).drew).alloc _)).grown Hgrow7.out (fun k e => (hnw.out.lt k e).1)
                go_wp2_with fail
                go_roundw
                case rel => exact ⟨j + 1, a7, c7, by go_num, rfl, by omega, hid Hown7.out, hid x7⟩
                case measure => simp [intOf]; omega
            · obtain rfl : n = j := by omega
              have lwj := hid (ownsRow_ext lw6.out hxj.out)
              have hsz := hxj.out.size
              have apn := hid (Ap.old lw6.out hnw.out (Nat.le_refl _))
              obtain ⟨nb, rfl, -, -, -⟩ : ∃ nb, na = some ⟨nb, 0, none⟩ ∧ True ∧ True ∧ True := by
                obtain ⟨x, y, e, -, -, -, K⟩ := own_slice hnw.out
                obtain ⟨nb, e2, -⟩ := K (by omega)
                injection e with e
                exact ⟨nb, e.trans e2, trivial, trivial, trivial⟩
              clear c1 b3 p4 p5 fs ku
              go_wp2_with (at_builtin; refine wpList_append_own_at _ rfl _ _ 23 rfl wo.heap.size 22 iu (.int .u64 0) 1 8 Try.underlying23 hiu hu0 hu1 hu2 rfl (by decide) (.slice la k lc) k _ rfl (lwj.out.alloc _) ⟨wj.heap.size, 0, none⟩ 1 1 [.int .u64 q] rfl rfl (cells_new _ _ _ rfl) (by simp [Value.oneCell']) (by simp only [maxLen]; omega) (by omega) (by simp; omega) ?_; intro v7 w7 hown7 hgrow7 hnil7 hat7; obtain ⟨a7, c7, rfl, -, -, -, -⟩ := own_slice hown7)
              have hw7 := hid (((hnw.out.alloc (.cells #[.int .u64 q] 22)).kept hgrow7 apn.out.symm))
              have x7 := ((hxr.out.trans (X6.out.trans hxj.out)).alloc (.cells #[.int .u64 q] 22)).grown hgrow7 (fun k e => ((lwj.out.alloc (.cells #[.int .u64 q] 22)).lt k e).1)
              have ap7 := hid ((Ap.grown apn.out.symm (hnw.out.alloc (.cells #[.int .u64 q] 22)) hat7).symm)
              go_roundw
              case rel => exact ⟨k + 1, nb, nc, a7, c7, by go_num, rfl, rfl, by omega, hid (by rw [HEs.out]; exact ownsRow_low hw7.out (by omega)), hid (by rw [HEs.out, List.map_append]; exact hown7), ap7, hid x7⟩
              case measure => simp [intOf]; omega
        · obtain rfl : r = k := by omega
          have FE := HE.out r (by rw [Er.out]; omega)
          have hS := Hs.out
          unfold stepE at hS
          rw [Er.out] at hS
          obtain ⟨e, ee⟩ : ∃ e, elimE p n st.U st.cols ys r = e := ⟨_, rfl⟩
          rw [ee] at htk hrw FE hS
          obtain ⟨f1, f2, f3, f4, -, -⟩ := FE
          simp only at hS
          have Htki := hid fun j (hj : j < st.C.length) => Ap.old (HT1.out.crow j hj) htk.out (Nat.le_refl _)
          have Htku := hid fun j (hj : j < st.U.length) => Ap.old (HT1.out.urow j hj) htk.out (Nat.le_refl _)
          have Aprc := hid fun j (hj : j < st.C.length) => Ap.old (HT1.out.crow j hj) hrw.out (Nat.le_refl _)
          have KXc := hid fun (W : World) (hW : Ext wr W) (j : Nat) (hj : j < n) => (show W.cell? ⟨xb, j, none⟩ = some (.int .u64 (e.2.getD j 0)) from by
            rw [hW.cells _ _ (hrw.out.lt xb rfl).2, hrw.out.cellAt j (by omega)]
            simp [List.getD, show j < e.2.length by omega])
          have F1 := hid f1; have F3 := hid f3; have F4 := hid f4
          obtain ⟨L, eL⟩ : ∃ L, leadE e.2 = L := ⟨_, rfl⟩
          have hLn : L ≤ n := by have := leadE_le e.2; omega
          have hL0 := hid fun j (hj : j < L) => leadE_zero (l := e.2) (j := j) (by rw [eL]; exact hj)
          have hL1 := hid fun (h : L < n) => (show e.2.getD L 0 ≠ 0 from by
            have h2 := leadE_ne (l := e.2) (by rw [eL]; omega)
            rwa [eL] at h2)
          rw [eL] at hS
          have HS0 := hid hS
          have hsr := hxr.out.size
          clear f1 f2 f3 f4 ee eL hS HE Hs Hyr Hpc Eys H5 X5 HK2 HK4 hqi hqs hqb hsl hsl'
          obtain ⟨b0, b1, b2, b3⟩ := (HT1.out.ext' hxr.out).at4
          go_wp2_with fail
          clear b0 b1 b2 b3
          go_loopw [17] (fun av wl => ∃ t : Nat, av = .int .i64 t ∧ t ≤ L ∧ Hid (Ext wr wl)) (fun av _ => L - (intOf av).toNat)
          case atStart => exact ⟨0, rfl, Nat.zero_le _, hid (Ext.refl _)⟩
          case round =>
            obtain ⟨t, rfl, ht, hxl⟩ := hrel
            rename World => wl
            obtain ⟨c0, c1, c2⟩ := (HB1.out.ext (HT1.out.ext.trans (hxr.out.trans hxl.out))).at3
            by_cases htL : t < L
            · have kx := KXc.out wl hxl.out t (by omega)
              rw [hL0.out t htL] at kx
              go_wp2_with fail
              go_roundw
              case rel => exact ⟨t + 1, by go_num, by omega, hxl⟩
              case measure => simp [intOf]; omega
            · obtain rfl : L = t := by omega
              have hS := HS0.out
              by_cases hLn2 : L < n
              · have kx := KXc.out wl hxl.out L hLn2
                have hy0 := hL1.out hLn2
                have ry := F4.out.getD hp2.1 L
                rw [if_pos hLn2] at hS
                obtain ⟨y, ey⟩ : ∃ y, e.2.getD L 0 = y := ⟨_, rfl⟩
                rw [ey] at kx hy0 ry hS
                have hu := HF.out y (by omega) ry.2
                rw [if_pos hu] at hS
                injection hS with hS
                have HS := hid hS
                have by0 : (y == 0) = false := by rw [beq_eq_false_iff_ne]; exact hy0
                obtain ⟨z, ez⟩ : ∃ z, minv p y = z := ⟨_, rfl⟩
                have CI := hid fun (W : World) => (ez ▸ rInv_yes p y W HP.out ry.1 ry.2 hu : Calls Try.prog 49 #[.int .u64 p, .int .u64 y] W (Ret (.tuple #[.int .u64 z, .int .i64 0]) W))
                clear hS ey ez hu hL0 hL1 HS0 KXc hy0 htL
                go_upto_region 27 with (go_at_call 49; refine (CI.out _).mono ?_; rintro _ w6 ⟨rfl, x6⟩; have tk6 := hid (ownsRow_ext htk.out (hxl.out.trans x6)); have rw6 := hid (ownsRow_ext hrw.out (hxl.out.trans x6)); have y6 := hid (hxr.out.trans (hxl.out.trans x6)))
                have hs6 := y6.out.size
                have P6 := hid (HT1.out.ext' (y6.out.alloc (.cells #[.int .u64 1] 22)))
                clear CI c0 c1 c2 kx x6 ry by0 htk hrw hxl
                go_upto_region 28 with (at_builtin; refine wpList_append_own_at _ rfl _ _ 23 rfl wo.heap.size 22 iu (.int .u64 0) 1 8 Try.underlying23 hiu hu0 hu1 hu2 rfl (by decide) (.slice la r lc) r _ rfl (tk6.out.alloc _) ⟨w6.heap.size, 0, none⟩ 1 1 [.int .u64 1] rfl rfl (cells_new _ _ _ rfl) (by simp [Value.oneCell']) (by simp only [maxLen]; omega) (by omega) (by simp; omega) ?_; intro v7 w7 hown7 hgrow7 hnil7 hat7)
                have x7 := (y6.out.alloc (.cells #[.int .u64 1] 22)).grown hgrow7 (fun k e => ((tk6.out.alloc (.cells #[.int .u64 1] 22)).lt k e).1)
                have T7 := hid (HT1.out.ext' x7)
                have rw7 := hid ((rw6.out.alloc (.cells #[.int .u64 1] 22)).kept hgrow7 hap.out.symm)
                have ap1 := hid ((Ap.grown hap.out.symm (rw6.out.alloc (.cells #[.int .u64 1] 22)) hat7).symm)
                have ap2 := hid (fun j hj => Ap.grown (Htki.out j hj) (P6.out.crow j hj) hat7)
                have ap3 := hid (fun j hj => Ap.grown (Htku.out j hj) (P6.out.urow j hj) hat7)
                obtain ⟨a7, c7, rfl, -, -, -, -⟩ := own_slice hown7
                have tk7 := hid hown7
                have R7 : Hid (w7.ownsRow w2.heap.size 3 1 (.slice ar r cr) r ((rowsZ st).map (Value.int .i64))) := hid (by have h := T7.out.rows; rw [E1.out] at h; exact h)
                obtain ⟨b0, b1, b2, b3⟩ := T7.out.at4
                have hs7 := x7.size
                clear hown7 hgrow7 hnil7 hat7 P6 tk6 rw6 y6 Htki Htku hap
                go_upto_region 29 with (at_builtin; refine wpList_append_own_at _ rfl _ _ 26 rfl w2.heap.size 3 ii (.int .i64 0) 1 8 Try.underlying26 hii hi0 hi1 hi2 rfl (by decide) (.slice ar r cr) r _ rfl (R7.out.alloc _) ⟨w7.heap.size, 0, none⟩ 1 1 [.int .i64 (i : Int)] rfl rfl (cells_new _ _ _ rfl) (by simp [Value.oneCell']) (by simp only [maxLen]; omega) (by omega) (by simp; omega) ?_; intro v8 w8 hown8 hgrow8 hnil8 hat8; have P8 := hid (T7.out.ext' ((Ext.refl w7).alloc (.cells #[.int .i64 (i : Int)] 3))); have B8 := hid (P8.out.box' P8.out.rows (by decide) hgrow8); have o8 := B8.out.cell 0; have f8 := B8.out.frozen 0; have T8 := hid (P8.out.addR (x := (i : Int)) (by rw [E1.out]; exact hown8) hgrow8 hat8); have rw8 := hid (own_put ((rw7.out.alloc (.cells #[.int .i64 (i : Int)] 3)).kept hgrow8 (ownsRow_apart (rw7.out.alloc _) P8.out.rows (by decide))) B8.out (by decide) 0 v8); have tk8 := hid (own_put ((tk7.out.alloc (.cells #[.int .i64 (i : Int)] 3)).kept hgrow8 (ownsRow_apart (tk7.out.alloc _) P8.out.rows (by decide))) B8.out (by decide) 0 v8); obtain ⟨a8, c8, rfl, -, -, -, -⟩ := own_slice hown8)
                obtain ⟨W8, eW8⟩ : ∃ W, w8.setCell ⟨g, 0, none⟩ (.slice a8 (r + 1) c8) = W := ⟨_, rfl⟩
                rw [eW8] at T8 rw8 tk8
                rw [eW8]
                clear eW8 hown8 hgrow8 hnil8 hat8 o8 f8 B8 P8 T7 rw7 tk7 R7 b0 b1 b2 b3 x7 hs7
                have K8 : Hid (W8.ownsRow w2.heap.size 3 1 (.slice ak r ck) r ((colsZ st).map (Value.int .i64))) := hid (by have h := T8.out.cols; rw [E2.out] at h; exact h)
                obtain ⟨b0, b1, b2, b3⟩ := T8.out.at4
                have hs8 := T8.out.ext.size
                go_upto_region 30 with (at_builtin; refine wpList_append_own_at _ rfl _ _ 26 rfl w2.heap.size 3 ii (.int .i64 0) 1 8 Try.underlying26 hii hi0 hi1 hi2 rfl (by decide) (.slice ak r ck) r _ rfl (K8.out.alloc _) ⟨W8.heap.size, 0, none⟩ 1 1 [.int .i64 (L : Int)] rfl rfl (cells_new _ _ _ rfl) (by simp [Value.oneCell']) (by simp only [maxLen]; omega) (by omega) (by simp; omega) ?_; intro v9 w9 hown9 hgrow9 hnil9 hat9; have P9 := hid (T8.out.ext' ((Ext.refl W8).alloc (.cells #[.int .i64 (L : Int)] 3))); have B9 := hid (P9.out.box' P9.out.cols (by decide) hgrow9); have o9 := B9.out.cell 1; have f9 := B9.out.frozen 1; have T9 := hid (P9.out.addK (x := (L : Int)) (by rw [E2.out]; exact hown9) hgrow9 hat9); have rw9 := hid (own_put ((rw8.out.alloc (.cells #[.int .i64 (L : Int)] 3)).kept hgrow9 (ownsRow_apart (rw8.out.alloc _) P9.out.cols (by decide))) B9.out (by decide) 1 v9); have tk9 := hid (own_put ((tk8.out.alloc (.cells #[.int .i64 (L : Int)] 3)).kept hgrow9 (ownsRow_apart (tk8.out.alloc _) P9.out.cols (by decide))) B9.out (by decide) 1 v9); obtain ⟨a9, c9, rfl, -, -, -, -⟩ := own_slice hown9)
                obtain ⟨W9, eW9⟩ : ∃ W, w9.setCell ⟨g, 1, none⟩ (.slice a9 (r + 1) c9) = W := ⟨_, rfl⟩
                rw [eW9] at T9 rw9 tk9
                rw [eW9]
                clear eW9 hown9 hgrow9 hnil9 hat9 o9 f9 B9 P9 T8 rw8 tk8 K8 b0 b1 b2 b3 hs8
                have K9 : Hid (W9.ownsRow w2.heap.size 23 1 (.slice au r cu) r us) := hid (by have h := T9.out.uu; rw [Er.out] at h; exact h)
                obtain ⟨b0, b1, b2, b3⟩ := T9.out.at4
                have hs9 := T9.out.ext.size
                go_upto_region 31 with (at_builtin; refine wpList_append_own_at _ rfl _ _ 27 rfl w2.heap.size 23 ir (.slice none 0 0) 1 24 Try.underlying27 hir hr0 hr1 hr2 rfl (by decide) (.slice au r cu) r us rfl (K9.out.alloc _) ⟨W9.heap.size, 0, none⟩ 1 1 [.slice (some ⟨xb, 0, none⟩) n xc] rfl rfl (cells_new _ _ _ rfl) (by simp [Value.oneCell']) (by simp only [maxLen]; omega) (by omega) (by simp; omega) ?_; intro vA wA hownA hgrowA hnilA hatA; have PA := hid (T9.out.ext' ((Ext.refl W9).alloc (.cells #[.slice (some ⟨xb, 0, none⟩) n xc] 23))); have BA := hid (PA.out.box' PA.out.uu (by decide) hgrowA); have oA := BA.out.cell 3; have fA := BA.out.frozen 3; have TA := hid (PA.out.addU (l := e.2) (by rw [Er.out]; exact hownA) hgrowA hatA (by rw [F3.out]; exact ownsRow_low (rw9.out.alloc _) hso) Aprc.out); have tkA := hid (own_put ((tk9.out.alloc (.cells #[.slice (some ⟨xb, 0, none⟩) n xc] 23)).kept hgrowA (ownsRow_apart (tk9.out.alloc _) PA.out.uu (by decide))) BA.out (by decide) 3 vA); obtain ⟨aA, cA, rfl, -, -, -, -⟩ := own_slice hownA)
                obtain ⟨WA, eWA⟩ : ∃ W, wA.setCell ⟨g, 3, none⟩ (.slice aA (r + 1) cA) = W := ⟨_, rfl⟩
                rw [eWA] at TA tkA
                rw [eWA]
                have hLu := hid HT1.out.lu
                clear eWA hownA hgrowA hnilA hatA oA fA BA PA T9 rw9 tk9 K9 b0 b1 b2 b3 hs9
                have KA : Hid (WA.ownsRow w2.heap.size 23 1 (.slice ac i cc) i cs) := hid (by have h := TA.out.cc; rw [E4.out] at h; exact h)
                obtain ⟨b0, b1, b2, b3⟩ := TA.out.at4
                have hsA := TA.out.ext.size
                have apU := hid (fun j (hj : j < (st.U ++ [e.2]).length) => (show Ap (.slice a7 (r + 1) c7) ((us ++ [Value.slice (some ⟨xb, 0, none⟩) n xc]).getD j undef) by
                  have hlu := hLu.out
                  rw [List.length_append, List.length_cons, List.length_nil] at hj
                  rw [getD_snoc]
                  by_cases c : j < st.U.length
                  · rw [if_pos (by omega)]; exact (ap3.out j c).symm
                  · rw [if_neg (by omega), if_pos (by omega)]; exact ap1.out))
                go_wp2_with (at_builtin; refine wpList_append_own_at _ rfl _ _ 27 rfl w2.heap.size 23 ir (.slice none 0 0) 1 24 Try.underlying27 hir hr0 hr1 hr2 rfl (by decide) (.slice ac i cc) i cs rfl (KA.out.alloc _) ⟨WA.heap.size, 0, none⟩ 1 1 [.slice a7 (r + 1) c7] rfl rfl (cells_new _ _ _ rfl) (by simp [Value.oneCell']) (by simp only [maxLen]; omega) (by omega) (by simp; omega) ?_; intro vB wB hownB hgrowB hnilB hatB; have PB := hid (TA.out.ext' ((Ext.refl WA).alloc (.cells #[.slice a7 (r + 1) c7] 23))); have BB := hid (PB.out.box' PB.out.cc (by decide) hgrowB); have oB := BB.out.cell 2; have fB := BB.out.frozen 2; have TB := hid (PB.out.addC (l := e.1 ++ [1]) (by rw [E4.out]; exact hownB) hgrowB hatB (by rw [List.length_append, F1.out, List.map_append]; exact ownsRow_low (tkA.out.alloc _) hso) ap2.out apU.out); obtain ⟨aB, cB, rfl, -, -, -, -⟩ := own_slice hownB)
                go_roundw
                case rel => exact ⟨i + 1, st', by go_num, by omega, Hst', hid ⟨_, _, _, _, _, _, by rw [← HS.out, rowsZ_snoc, colsZ_snoc]; exact TB.out⟩⟩
                case measure => simp [intOf]; omega
              · obtain rfl : n = L := by omega
                rw [if_neg (Nat.lt_irrefl _)] at hS
                injection hS with hS
                have HS := hid hS
                have x7 := hid (hxr.out.trans hxl.out)
                have T7 := hid (HT1.out.ext' x7.out)
                have tk7 := hid (ownsRow_ext htk.out hxl.out)
                have KA : Hid (wl.ownsRow w2.heap.size 23 1 (.slice ac i cc) i cs) := hid (by have h := T7.out.cc; rw [E4.out] at h; exact h)
                obtain ⟨b0, b1, b2, b3⟩ := T7.out.at4
                have hsA := T7.out.ext.size
                clear hS hL0 hL1 HS0 KXc htL
                go_wp2_with (at_builtin; refine wpList_append_own_at _ rfl _ _ 27 rfl w2.heap.size 23 ir (.slice none 0 0) 1 24 Try.underlying27 hir hr0 hr1 hr2 rfl (by decide) (.slice ac i cc) i cs rfl (KA.out.alloc _) ⟨wl.heap.size, 0, none⟩ 1 1 [.slice la r lc] rfl rfl (cells_new _ _ _ rfl) (by simp [Value.oneCell']) (by simp only [maxLen]; omega) (by omega) (by simp; omega) ?_; intro vB wB hownB hgrowB hnilB hatB; have PB := hid (T7.out.ext' ((Ext.refl wl).alloc (.cells #[.slice la r lc] 23))); have BB := hid (PB.out.box' PB.out.cc (by decide) hgrowB); have oB := BB.out.cell 2; have fB := BB.out.frozen 2; have TB := hid (PB.out.addC (l := e.1) (by rw [E4.out]; exact hownB) hgrowB hatB (by rw [F1.out]; exact ownsRow_low (tk7.out.alloc _) hso) Htki.out fun j hj => (Htku.out j hj).symm); obtain ⟨aB, cB, rfl, -, -, -, -⟩ := own_slice hownB)
                go_roundw
                case rel => exact ⟨i + 1, st', by go_num, by omega, Hst', hid ⟨_, _, _, _, _, _, by rw [← HS.out]; exact TB.out⟩⟩
                case measure => simp [intOf]; omega
    · obtain rfl : m = i := by omega
      have okE := takeE_ok (n := n) (R := rowOf n xs) hp2.1 m (fun i _ => rowOf_rng hp2.1 Hx.out i) hst.out
      have est := hid (show st = takeL p m n xs from by
        have h := hst.out
        rw [hall.out] at h
        injection h with h
        exact h.symm)
      obtain ⟨r, er⟩ : ∃ r, st.U.length = r := ⟨_, rfl⟩
      have e4 := okE.lc
      have hrm : r ≤ m := by have := okE.le; omega
      have hcl := hid (show ∀ t, t < m → (st.C.getD t []).length ≤ r ∧ GetsL (st.C.getD t []) (st.C.getD t []) from fun t ht => ⟨by have := (okE.cl t ht).1; omega, Nat.le_refl _, fun _ => rfl⟩)
      have T3 := T.cc; have T4 := T.uu
      rw [e4] at T3; rw [er] at T4
      obtain ⟨ac, cc, rfl, -, -, -, K3'⟩ := own_slice T3
      obtain ⟨au, cu, rfl, -, -, -, -⟩ := own_slice T4
      have HK3 := hid K3'
      have HT1 := hid T
      have E4 := hid e4; have Er := hid er
      have hs0 := hxo.size
      have Hxo := hid hxo
      obtain ⟨R, hR⟩ : ∃ l, rowsZ st = l := ⟨_, rfl⟩
      obtain ⟨K, hK⟩ : ∃ l, colsZ st = l := ⟨_, rfl⟩
      obtain ⟨U, hU⟩ : ∃ l, st.U = l := ⟨_, rfl⟩
      have HR := hid hR; have HKc := hid hK; have HUe := hid hU
      rw [hR, hK, hU] at HT1
      clear T T3 T4 K3' e4 er okE hxo hR hK hU K3 Hv
      go_wp2_with fail
      clear c0 c1 c2
      go_loopw [20] (fun jv wr => ∃ (j : Nat) (D : List (List Int)) (ds : List Value), jv = .int .i64 j ∧ j ≤ m ∧ Hid (T7 w2 wr g R K D U rv cv (.slice ac m cc) (.slice au r cu) ds us) ∧ Hid (D.length = m) ∧ Hid (∀ t, t < m → (D.getD t []).length ≤ r ∧ GetsL (D.getD t []) (st.C.getD t [])) ∧ Hid (∀ t, t < j → (D.getD t []).length = r)) (fun jv _ => m - (intOf jv).toNat)
      case atStart => exact ⟨0, st.C, cs, rfl, Nat.zero_le _, HT1, E4, hcl, hid (fun t ht => absurd ht (Nat.not_lt_zero _))⟩
      case round =>
        obtain ⟨j, D, ds, rfl, hj, HD, hDl, hDc, hDr⟩ := hrel
        rename World => wr
        obtain ⟨b0, b1, b2, b3⟩ := HD.out.at4
        by_cases hlj : j < m
        · obtain ⟨gc, rfl, -, hgc, -⟩ := HK3.out (by omega)
          go_wp2_with fail
          clear b0 b1 b2 b3
          go_loopw [] (fun wj => ∃ (D : List (List Int)) (ds : List Value), Hid (T7 w2 wj g R K D U rv cv (.slice (some ⟨gc, 0, none⟩) m cc) (.slice au r cu) ds us) ∧ Hid (D.length = m) ∧ Hid (∀ t, t < m → (D.getD t []).length ≤ r ∧ GetsL (D.getD t []) (st.C.getD t [])) ∧ Hid (∀ t, t < j → (D.getD t []).length = r)) (fun wj => match wj.cell? ⟨gc, j, none⟩ with | some v => r - lenV v | none => 0)
          case atStart => exact ⟨D, ds, HD, hDl, hDc, hDr⟩
          case round =>
            clear HD hDl hDc hDr
            obtain ⟨D, ds, HD, hDl, hDc, hDr⟩ := hrel
            rename World => wj
            have TC := HD.out.crow j (by rw [hDl.out]; exact hlj)
            have hlq := (hDc.out j hlj).1
            obtain ⟨l, el⟩ : ∃ l, D.getD j [] = l := ⟨_, rfl⟩
            rw [el] at TC hlq
            obtain ⟨q, eq⟩ : ∃ q, l.length = q := ⟨_, rfl⟩
            rw [eq] at TC hlq
            obtain ⟨ta, tc, eD, -, -, -, -⟩ := own_slice TC
            rw [eD] at TC
            have hcc := HD.out.cc
            rw [hDl.out] at hcc
            have q3 := hcc.cellAt j (by omega)
            have f3 := hcc.frozenAt j
            have hdl : j < ds.length := by have := HD.out.lc; have := hDl.out; omega
            rw [List.getElem?_eq_getElem hdl] at q3
            have eD2 : ds[j] = .slice ta q tc := by rw [← eD]; simp [List.getD, hdl]
            have Hq := hid (show ds[j]? = some (.slice ta q tc) by rw [List.getElem?_eq_getElem hdl, eD2])
            rw [eD2] at q3
            have Q3 := hid q3
            have TC := hid TC; have ED := hid eD; have El := hid el; have Eql := hid eq
            obtain ⟨b0, b1, b2, b3⟩ := HD.out.at4
            have hsj := HD.out.ext.size
            clear el eq eD eD2 hdl hcc
            by_cases hqr : q < r
            · have tq : decide ((q : Int) < (r : Int)) = true := decide_eq_true (by omega)
              have tq' : decide (q < r) = true := decide_eq_true hqr
              go_wp2_with fail
              go_quiet (fail)
              obtain ⟨wq, hwq⟩ : ∃ W, wj.drewN nq = W := ⟨_, rfl⟩
              have xq : Ext wj wq := by rw [← hwq]; exact (Ext.refl _).drewN _
              rw [hwq]
              clear hwq b0 b1 b2 b3 q3 f3
              have TD := hid (HD.out.ext' xq)
              have TCq := hid (ownsRow_ext TC.out xq)
              have hccq : Hid (wq.ownsRow w2.heap.size 23 1 (.slice (some ⟨gc, 0, none⟩) m cc) m ds) := hid (by have h := TD.out.cc; rw [hDl.out] at h; exact h)
              obtain ⟨b0, b1, b2, b3⟩ := TD.out.at4
              have q3 := (hccq.out.cellAt j (by omega)).trans Hq.out
              have f3 := hccq.out.frozenAt j
              have hsq := TD.out.ext.size
              have yA : Ext wq (wq.alloc (.cells #[.int .u64 0] 22)).drew := ((Ext.refl wq).alloc _).drew
              have TA := hid (TD.out.ext' yA)
              have TCA := hid (ownsRow_ext TCq.out yA)
              have ccA := hid (ownsRow_ext hccq.out yA)
              have q3A := (ccA.out.cellAt j (by omega)).trans Hq.out
              have f3A := ccA.out.frozenAt j
              have q3B := ((ownsRow_ext hccq.out ((Ext.refl wq).alloc (.cells #[.int .u64 0] 22))).cellAt j (by omega)).trans Hq.out
              obtain ⟨d0, d1, d2, d3⟩ := TA.out.at4
              obtain ⟨d0', d1', d2', d3'⟩ := (TD.out.ext' ((Ext.refl wq).alloc (.cells #[.int .u64 0] 22))).at4
              go_wp2_with fail
              go_region_law (first
                | (refine step_append_at _ rfl (.tmp 184) (.tmp 185) 23 rfl w2.heap.size 22 iu (.int .u64 0) 1 8 Try.underlying23 hiu hu0 hu1 hu2 rfl (by decide) (.slice ta q tc) q (l.map (Value.int .u64)) (by simp [Act.eval]) TCA.out ⟨wq.heap.size, 0, none⟩ 1 1 [.int .u64 0] (by simp [Act.eval]) rfl (cells_new _ _ _ (by simp)) (by simp [Value.oneCell']) (by simp only [maxLen]; omega) (by omega) (by simp at hsq ⊢; omega) ?_
                   intro v6 w6 hown6 hgrow6 hat6
                   have c6 := ccA.out.kept hgrow6 (ownsRow_apart ccA.out TCA.out (by decide))
                   have o6 := (c6.cellAt j (by omega)).trans Hq.out
                   have f6 := c6.frozenAt j
                   obtain ⟨e0, e1, e2, e3⟩ := (TA.out.box' TCA.out (by decide) hgrow6).at4
                   have Hown6 := hid hown6
                   have Hgrow6 := hid hgrow6; have Hat6 := hid hat6
                   obtain ⟨a6, c7, rfl, -, -, -, -⟩ := own_slice hown6))
              all_goals
                have hT := hid (TA.out.setC hDl.out hlj (l := l ++ [0]) (by rw [List.length_append, List.map_append, Eql.out]; exact Hown6.out) (by rw [ED.out]; exact Hgrow6.out) (by rw [ED.out]; exact Hat6.out))
                have Cnew := hid (World.cell?_setCell_same _ _ (.slice a6 (q + 1) c7) o6)
                go_wp2_with fail
                go_roundw
                case rel =>
                  refine ⟨D.set j (l ++ [0]), _, hT, hid (by rw [List.length_set]; exact hDl.out), hid (fun t ht => ?_), hid (fun t ht => by
                    rw [getD_set7 D j t (l ++ [0]) [] (by rw [hDl.out]; exact hlj), if_neg (by omega)]
                    exact hDr.out t ht)⟩
                  rw [getD_set7 D j t (l ++ [0]) [] (by rw [hDl.out]; exact hlj)]
                  by_cases e : j = t
                  · subst e
                    have hg := (hDc.out j hlj).2
                    rw [El.out] at hg
                    rw [if_pos rfl, List.length_append, Eql.out]
                    refine ⟨by simp; omega, by have := hg.1; rw [List.length_append]; omega, fun i => ?_⟩
                    rw [← hg.2 i]
                    rcases Nat.lt_or_ge i l.length with c | c
                    · exact getD_app _ _ _ c
                    · rw [getD_over c]
                      rcases Nat.lt_or_ge l.length i with c' | c'
                      · exact getD_over (by rw [List.length_append]; simp; omega)
                      · exact getD_end _ _ _ (by omega)
                  · rw [if_neg e]; exact hDc.out t ht
                case measure =>
                  rw [Cnew.out, Q3.out]
                  simp [lenV]
                  omega
            · have tq : decide ((q : Int) < (r : Int)) = false := decide_eq_false (by omega)
              have tq' : decide (q < r) = false := decide_eq_false hqr
              go_wp2_with fail
              go_quiet (fail)
              go_wp2_with fail
              go_roundw
              case rel => exact ⟨j + 1, D, ds, by go_num, by omega, hid (HD.out.ext' ((Ext.refl _).drewN _)), hDl, hDc, hid (fun t ht => by
                by_cases e : t = j
                · rw [e, El.out, Eql.out]; omega
                · exact hDr.out t (by omega))⟩
              case measure => simp [intOf]; omega
        · obtain rfl : m = j := by omega
          have hxr := HD.out.ext
          have Z := HB2.out.ext hxr
          obtain ⟨z0, z1, z2, z3⟩ := Z.at4
          have zf0 := Z.frozen 0
          have zf1 := Z.frozen 1
          have zf2 := Z.frozen 2
          have zf3 := Z.frozen 3
          have ZH := hid Z
          have T1 := HD.out.rows; have T2 := HD.out.cols
          obtain ⟨ar, cr, rfl, -, -, -, -⟩ := own_slice T1
          obtain ⟨ak, ck, rfl, -, -, -, -⟩ := own_slice T2
          have put := fun (e : TypeId) (v : Value) (k : Nat) (ys : List Value) (he : e ≠ 29) (h : wr.ownsRow w2.heap.size e 1 v k ys) (a b c d : Value) => own_put (own_put (own_put (own_put h Z he 0 a) (Z.set_ 0 a) he 1 b) ((Z.set_ 0 a).set_ 1 b) he 2 c) (((Z.set_ 0 a).set_ 1 b).set_ 2 c) he 3 d
          have hR := hid (owns_ints (put 3 _ _ _ (by decide) T1 (.slice ar R.length cr) (.slice ak K.length ck) (.slice ac m cc) (.slice au r cu)))
          have hK := hid (owns_ints (put 3 _ _ _ (by decide) T2 (.slice ar R.length cr) (.slice ak K.length ck) (.slice ac m cc) (.slice au r cu)))
          have hE := hid ((((((Hx2.out.trans hxr).setCell (p := ⟨g2, 0, none⟩) hgw (.slice ar R.length cr)).setCell (p := ⟨g2, 1, none⟩) hgw (.slice ak K.length ck)).setCell (p := ⟨g2, 2, none⟩) hgw (.slice ac m cc)).setCell (p := ⟨g2, 3, none⟩) hgw (.slice au r cu)))
          have hbk := (((ZH.out.set_ 0 (.slice ar R.length cr)).set_ 1 (.slice ak K.length ck)).set_ 2 (.slice ac m cc)).set_ 3 (.slice au r cu)
          have hbk2 := hid (show Blk _ g2 29 #[.slice ar R.length cr, .slice ak K.length ck, .slice ac m cc, .slice au r cu] from hbk)
          have hC1 := hid (own_slice (put 23 _ _ _ (by decide) (show wr.ownsRow w2.heap.size 23 1 (.slice ac m cc) m ds from by have h := HD.out.cc; rw [hDl.out] at h; exact h) (.slice ar R.length cr) (.slice ak K.length ck) (.slice ac m cc) (.slice au r cu)))
          have hC2 := hid (fun j (hj : j < m) => owns_ints (put 22 _ _ _ (by decide) (HD.out.crow j (by rw [hDl.out]; exact hj)) (.slice ar R.length cr) (.slice ak K.length ck) (.slice ac m cc) (.slice au r cu)))
          have hC3 := hid (usl_of (put 23 _ _ _ (by decide) (show wr.ownsRow w2.heap.size 23 1 (.slice ac m cc) m ds from by have h := HD.out.cc; rw [hDl.out] at h; exact h) (.slice ar R.length cr) (.slice ak K.length ck) (.slice ac m cc) (.slice au r cu)) hDl.out fun j hj => by obtain ⟨_, _, _, _, q⟩ := hC2.out j hj; exact q)
          have hU3 := hid (usl_of (put 23 _ _ _ (by decide) HD.out.uu (.slice ar R.length cr) (.slice ak K.length ck) (.slice ac m cc) (.slice au r cu)) rfl fun j hj => by obtain ⟨_, _, _, _, q⟩ := owns_ints (put 22 _ _ _ (by decide) (HD.out.urow j hj) (.slice ar R.length cr) (.slice ak K.length ck) (.slice ac m cc) (.slice au r cu)); exact q)
          clear hbk put T1 T2 Z hxr
          go_wp2_with fail
          refine bodyPost_ret (results_cell_row_tmp rfl _ _ g2 29 #[.slice ar R.length cr, .slice ak K.length ck, .slice ac m cc, .slice au r cu] (0, 0) _ rfl hbk2.out Try.underlying29 rfl (by kernel_rfl)) rfl ?_
          obtain ⟨_, _, _, _, hI1⟩ := hR.out
          obtain ⟨_, _, _, _, hI2⟩ := hK.out
          rw [← est.out]
          refine ⟨_, _, _, _, _, _, _, _, D, ds, rfl, ?_, ?_, E4.out.symm, fun h => ?_, fun k hk => ?_, fun k hk => by rw [Er.out]; exact hDr.out k hk, hDl.out, hC3.out, by rw [HUe.out]; exact hU3.out, hE.out⟩
          · rw [HR.out]; exact hI1
          · rw [HKc.out]; exact hI2
          · obtain ⟨_, _, e, -, -, -, q⟩ := hC1.out
            obtain ⟨rfl, -, rfl⟩ := Value.slice.inj e
            obtain ⟨g, e1, -, e2, e3⟩ := q h
            exact ⟨g, e1, e2, e3⟩
          · obtain ⟨_, _, _, _, q⟩ := hC2.out k hk
            exact ⟨q, by rw [Er.out]; exact (hDc.out k hk).1, (hDc.out k hk).2⟩
theorem r7TakeC (p : Int) (m n : Nat) (v : Value) (xs : List Int) (w : World) (ok : MatOk p m n xs) (hf : Fld p) (hv : Ints .u64 w v xs) :
    Calls Try.prog 20 #[.int .u64 p, matV m n v] w (RetT7C (takeL p m n xs) w) := by
  refine (r7TakeF p m n v xs w ok hf hv).mono ?_
  rintro _ w' ⟨rv, cv, a1, l1, c1, a2, l2, c2, D, ds, h0, h1, h2, h3, h4, h5, -, -, -, -, hx⟩
  exact ⟨rv, cv, a1, l1, c1, a2, l2, c2, D, ds, h0, h1, h2, h3, h4, h5, hx⟩
/-- the document's answer is the same as the program's -/
theorem r7TakeCup (p : Int) (m n : Nat) (v : Value) (xs : List Int) (w : World) (ok : MatOk p m n xs) (hf : Fld p) (hv : Ints .u64 w v xs) :
    Calls Try.prog 20 #[.int .u64 p, matV m n v] w (RetCup (rowsZ (takeL p m n xs)) (colsZ (takeL p m n xs)) ((takeL p m n xs).C.map (padL (takeL p m n xs).U.length)) (takeL p m n xs).U w) := by
  refine (r7TakeF p m n v xs w ok hf hv).mono ?_
  rintro _ w' ⟨rv, cv, a1, l1, c1, a2, l2, c2, D, ds, rfl, h1, h2, h3, -, h5, h6, h7, h8, h9, hx⟩
  have e : D = (takeL p m n xs).C.map (padL (takeL p m n xs).U.length) := by
    refine List.ext_getElem (by rw [List.length_map, h7, h3]) fun j hj hj' => ?_
    have hj2 : j < l1 := by omega
    have hj3 : j < (takeL p m n xs).C.length := by omega
    have a1 : D[j] = D.getD j [] := by simp [List.getD, hj]
    rw [a1, List.getElem_map]
    have a2 : (takeL p m n xs).C[j] = (takeL p m n xs).C.getD j [] := by simp [List.getD, hj3]
    rw [a2]
    have hc := ((takeL_ok (m := m) (n := n) (rightB_true ok.hp).1 hf ok.hx).cl j (by have := (takeL_ok (m := m) (n := n) (rightB_true ok.hp).1 hf ok.hx).lc; omega)).1
    refine list_ext (by rw [h6 j hj2, padL_len hc]) fun i _ => ?_
    rw [padL_get]
    exact (h5 j hj2).2.2.2 i
  exact ⟨rv, cv, _, _, rfl, h1, h2, e ▸ h8, h9, hx⟩
theorem r7Take (p : Int) (m n : Nat) (v : Value) (xs : List Int) (w : World) (ok : MatOk p m n xs) (hf : Fld p) (hv : Ints .u64 w v xs) :
    Calls Try.prog 20 #[.int .u64 p, matV m n v] w (RetT7 (rowsZ (takeL p m n xs)) (colsZ (takeL p m n xs)) w) := by
  refine (r7TakeC p m n v xs w ok hf hv).mono ?_
  rintro _ w' ⟨rv, cv, a1, l1, c1, a2, l2, c2, D, ds, rfl, h1, h2, -, -, -, hx⟩
  exact ⟨rv, cv, a1, l1, c1, a2, l2, c2, rfl, h1, h2, hx⟩
end Go.Proofs.Ytnfnommiabalfaa
