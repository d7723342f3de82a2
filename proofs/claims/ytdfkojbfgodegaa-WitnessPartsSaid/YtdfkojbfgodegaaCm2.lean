/- Package cup: a matrix as far as it is taken apart, in memory. -/
import Derived.Test.YtdfkojbfgodegaaBun13
import Derived.Test.YtdfkojbfgodegaaBun10
import Derived.RangeFuncFrom
namespace Go.Proofs.Ytdfkojbfgodegaa
open Go.RowKit Go.Maps

theorem own_slice {w : World} {base n : Nat} {e : TypeId} {v : Value} {xs : List Value} (h : w.ownsRow base e 1 v n xs) : ∃ a cap, v = .slice a n cap ∧ xs.length = n ∧ n ≤ cap ∧ cap ≤ 9223372036854775807 ∧
    (0 < n → ∃ g, a = some ⟨g, 0, none⟩ ∧ base ≤ g ∧ g < w.heap.size ∧ ∀ j, j < n → w.cell? ⟨g, j, none⟩ = some (xs.getD j undef)) := by
  have hl : xs.length = n := by have := h.1; simpa using this
  have h0 := h
  obtain ⟨_, ⟨rfl, h1⟩ | ⟨g, cap, cur, rfl, hg, hb, hc1, hc2, hs, ht⟩⟩ := h
  · obtain rfl : n = 0 := by simpa using h1
    exact ⟨none, 0, rfl, hl, Nat.le_refl _, by omega, fun h => by omega⟩
  · refine ⟨_, cap, rfl, hl, hc1, by unfold maxLen at hc2; omega, fun _ => ⟨g, rfl, hg, Blk.lt (t := e) (cs := cur) hb, fun j hj => ?_⟩⟩
    rw [h0.cellAt j (by omega)]
    simp [hl, hj, List.getD]
theorem info_rows : (Try.prog.info? 23).map (fun i => (i.zero, i.size, i.bytes)) = some (some (.slice none 0 0), 1, 24) := by kernel_rfl

theorem grown_new {a b c : World} {row row2 : Option Nat} (h : a.grownBy b row) (k : b.grownBy c row2) (hn : ∀ q, row2 = some q → a.heap.size ≤ q) : a.grownBy c row :=
  ⟨k.os.trans h.os, k.tape.trans h.tape, k.output.trans h.output, Nat.le_trans h.size k.size, fun q hq hne => (k.block q (Nat.lt_of_lt_of_le hq h.size) (fun e => by have := hn q e.symm; omega)).trans (h.block q hq hne)⟩
theorem grown_ext {w a b : World} {g : Nat} (h : a.grownBy b (some g)) (x : Ext w a) (hg : w.heap.size ≤ g) : Ext w b := x.grown h fun k e => by injection e with e; omega
theorem ko_ext {w w1 : World} (x : Ext w w1) : KeepsOthers w w1 := KeepsOthers.of_grownBy (x.grownBy none) (fun _ _ e => by cases e)
theorem ko_grown {w w1 : World} {base n : Nat} {e : TypeId} {v : Value} {xs : List Value} (h : w.ownsRow base e 1 v n xs) (hg : w.grownBy w1 v.ownBlock) : KeepsOthers w w1 :=
  KeepsOthers.of_grownBy hg fun j o he ho => by
    rcases h.2 with ⟨rfl, _⟩ | ⟨g, cap, cur, rfl, _, hb, _⟩
    · cases he
    · have he : g = j := by injection he
      rw [← he, hb] at ho
      cases ho; rfl
theorem own_kept {w w' : World} {base n : Nat} {e : TypeId} {v : Value} {xs : List Value} {row : Option Nat} (h : w.ownsRow base e 1 v n xs) (hg : w.grownBy w' row) (hr : ∀ r, row = some r → ∃ o : Obj, w.heap[r]? = some o ∧ o.isCells = false) : w'.ownsRow base e 1 v n xs := by
  refine h.kept hg ?_
  rcases h.2 with ⟨rfl, _⟩ | ⟨g, cap, cur, rfl, _, hb, _⟩
  · exact .inl rfl
  · refine .inr fun e => ?_
    obtain ⟨o, ho, hc⟩ := hr g e.symm
    rw [hb] at ho; cases ho; cases hc
/-- a matrix as far as it is taken apart: the taker's box, and its rows, each of the call's own and apart from the others -/
structure Tk (w0 wK w : World) (g : Nat) (p : Int) (R K I : List Int) (C U : List (List Int)) (rv cv Cv Uv iv : Value) (cs us : List Value) : Prop where
  box : Blk w g 85 #[rv, cv, Cv, Uv, .int .u64 p, iv]
  rows : w.ownsRow w0.heap.size 3 1 rv R.length (R.map (Value.int .i64))
  cols : w.ownsRow w0.heap.size 3 1 cv K.length (K.map (Value.int .i64))
  cc : w.ownsRow w0.heap.size 23 1 Cv C.length cs
  uu : w.ownsRow w0.heap.size 23 1 Uv U.length us
  inv : w.ownsRow w0.heap.size 22 1 iv I.length (I.map (Value.int .u64))
  crow : ∀ j, j < C.length → w.ownsRow w0.heap.size 22 1 (cs.getD j undef) (C.getD j []).length ((C.getD j []).map (Value.int .u64))
  urow : ∀ j, j < U.length → w.ownsRow w0.heap.size 22 1 (us.getD j undef) (U.getD j []).length ((U.getD j []).map (Value.int .u64))
  a1 : Ap rv cv
  a2 : Ap Cv Uv
  a3 : ∀ j, j < C.length → Ap (cs.getD j undef) iv
  a4 : ∀ j, j < U.length → Ap (us.getD j undef) iv
  a5 : ∀ j k, j < C.length → k < C.length → j ≠ k → Ap (cs.getD j undef) (cs.getD k undef)
  a6 : ∀ j k, j < C.length → k < U.length → Ap (cs.getD j undef) (us.getD k undef)
  ext : w0.grownBy w (some g)
  ko : KeepsOthers wK w
section
variable {w0 wK w w1 : World} {g : Nat} {p : Int} {R K I : List Int} {C U : List (List Int)} {rv cv Cv Uv iv : Value} {cs us : List Value}

theorem Tk.lc (T : Tk w0 wK w g p R K I C U rv cv Cv Uv iv cs us) : cs.length = C.length := by have := T.cc.1; simpa using this
theorem Tk.lu (T : Tk w0 wK w g p R K I C U rv cv Cv Uv iv cs us) : us.length = U.length := by have := T.uu.1; simpa using this
theorem Tk.ext' (T : Tk w0 wK w g p R K I C U rv cv Cv Uv iv cs us) (x : Ext w w1) : Tk w0 wK w1 g p R K I C U rv cv Cv Uv iv cs us :=
  ⟨T.box.ext x, ownsRow_ext T.rows x, ownsRow_ext T.cols x, ownsRow_ext T.cc x, ownsRow_ext T.uu x, ownsRow_ext T.inv x, fun j hj => ownsRow_ext (T.crow j hj) x, fun j hj => ownsRow_ext (T.urow j hj) x, T.a1, T.a2, T.a3, T.a4, T.a5, T.a6, T.ext.trans (x.grownBy _), T.ko.trans (ko_ext x)⟩
theorem Tk.at6 (T : Tk w0 wK w g p R K I C U rv cv Cv Uv iv cs us) : w.cell? ⟨g, 0, none⟩ = some rv ∧ w.cell? ⟨g, 1, none⟩ = some cv ∧ w.cell? ⟨g, 2, none⟩ = some Cv ∧ w.cell? ⟨g, 3, none⟩ = some Uv ∧ w.cell? ⟨g, 4, none⟩ = some (.int .u64 p) ∧ w.cell? ⟨g, 5, none⟩ = some iv :=
  ⟨T.box.cell 0, T.box.cell 1, T.box.cell 2, T.box.cell 3, T.box.cell 4, T.box.cell 5⟩
/-- the box, where something else has grown -/
theorem Tk.box' (T : Tk w0 wK w g p R K I C U rv cv Cv Uv iv cs us) {b n : Nat} {e : TypeId} {v : Value} {xs : List Value} (h : w.ownsRow b e 1 v n xs) (he : e ≠ 85) (hg : w.grownBy w1 v.ownBlock) : Blk w1 g 85 #[rv, cv, Cv, Uv, .int .u64 p, iv] :=
  T.box.grown hg (by
    rcases ownsRow_blk h T.box he with e | e
    · rw [e]; simp
    · exact e)
theorem Blk.at6 {w : World} {g : Nat} {t : TypeId} {a b c d e f : Value} (h : Blk w g t #[a, b, c, d, e, f]) : w.cell? ⟨g, 0, none⟩ = some a ∧ w.cell? ⟨g, 1, none⟩ = some b ∧ w.cell? ⟨g, 2, none⟩ = some c ∧ w.cell? ⟨g, 3, none⟩ = some d ∧ w.cell? ⟨g, 4, none⟩ = some e ∧ w.cell? ⟨g, 5, none⟩ = some f :=
  ⟨h.cell 0, h.cell 1, h.cell 2, h.cell 3, h.cell 4, h.cell 5⟩

/-- a row's number more -/
theorem Tk.addR (T : Tk w0 wK w g p R K I C U rv cv Cv Uv iv cs us) {v' : Value} {x : Int} (hown : w1.ownsRow w0.heap.size 3 1 v' (R.length + 1) (R.map (Value.int .i64) ++ [.int .i64 x])) (hg : w.grownBy w1 rv.ownBlock) (hat : v'.ownBlock = rv.ownBlock ∨ v'.ownBlock = some w.heap.size) :
    Tk w0 wK (w1.setCell ⟨g, 0, none⟩ v') g p (R ++ [x]) K I C U v' cv Cv Uv iv cs us := by
  have B := T.box' T.rows (by decide) hg
  refine ⟨B.set_ 0 v', own_put (by rw [List.length_append, List.map_append]; exact hown) B (by decide) _ _, own_put (T.cols.kept hg T.a1.symm) B (by decide) _ _, own_put (T.cc.kept hg (ownsRow_apart T.cc T.rows (by decide))) B (by decide) _ _, own_put (T.uu.kept hg (ownsRow_apart T.uu T.rows (by decide))) B (by decide) _ _,
    own_put (T.inv.kept hg (ownsRow_apart T.inv T.rows (by decide))) B (by decide) _ _, fun j hj => own_put ((T.crow j hj).kept hg (ownsRow_apart (T.crow j hj) T.rows (by decide))) B (by decide) _ _, fun j hj => own_put ((T.urow j hj).kept hg (ownsRow_apart (T.urow j hj) T.rows (by decide))) B (by decide) _ _,
    (T.a1.symm.grown T.cols hat).symm, T.a2, T.a3, T.a4, T.a5, T.a6, (grown_new T.ext hg fun k e => (T.rows.lt k e).1).trans (setCell_grown _ _ _), (T.ko.trans (ko_grown T.rows hg)).trans (KeepsOthers.setCell _ _ _)⟩
/-- a column more -/
theorem Tk.addK (T : Tk w0 wK w g p R K I C U rv cv Cv Uv iv cs us) {v' : Value} {x : Int} (hown : w1.ownsRow w0.heap.size 3 1 v' (K.length + 1) (K.map (Value.int .i64) ++ [.int .i64 x])) (hg : w.grownBy w1 cv.ownBlock) (hat : v'.ownBlock = cv.ownBlock ∨ v'.ownBlock = some w.heap.size) :
    Tk w0 wK (w1.setCell ⟨g, 1, none⟩ v') g p R (K ++ [x]) I C U rv v' Cv Uv iv cs us := by
  have B := T.box' T.cols (by decide) hg
  refine ⟨B.set_ 1 v', own_put (T.rows.kept hg T.a1) B (by decide) _ _, own_put (by rw [List.length_append, List.map_append]; exact hown) B (by decide) _ _, own_put (T.cc.kept hg (ownsRow_apart T.cc T.cols (by decide))) B (by decide) _ _, own_put (T.uu.kept hg (ownsRow_apart T.uu T.cols (by decide))) B (by decide) _ _,
    own_put (T.inv.kept hg (ownsRow_apart T.inv T.cols (by decide))) B (by decide) _ _, fun j hj => own_put ((T.crow j hj).kept hg (ownsRow_apart (T.crow j hj) T.cols (by decide))) B (by decide) _ _, fun j hj => own_put ((T.urow j hj).kept hg (ownsRow_apart (T.urow j hj) T.cols (by decide))) B (by decide) _ _,
    T.a1.grown T.rows hat, T.a2, T.a3, T.a4, T.a5, T.a6, (grown_new T.ext hg fun k e => (T.cols.lt k e).1).trans (setCell_grown _ _ _), (T.ko.trans (ko_grown T.cols hg)).trans (KeepsOthers.setCell _ _ _)⟩
/-- an inverse more -/
theorem Tk.addI (T : Tk w0 wK w g p R K I C U rv cv Cv Uv iv cs us) {v' : Value} {x : Int} (hown : w1.ownsRow w0.heap.size 22 1 v' (I.length + 1) (I.map (Value.int .u64) ++ [.int .u64 x])) (hg : w.grownBy w1 iv.ownBlock) (hat : v'.ownBlock = iv.ownBlock ∨ v'.ownBlock = some w.heap.size) :
    Tk w0 wK (w1.setCell ⟨g, 5, none⟩ v') g p R K (I ++ [x]) C U rv cv Cv Uv v' cs us := by
  have B := T.box' T.inv (by decide) hg
  refine ⟨B.set_ 5 v', own_put (T.rows.kept hg (ownsRow_apart T.rows T.inv (by decide))) B (by decide) _ _, own_put (T.cols.kept hg (ownsRow_apart T.cols T.inv (by decide))) B (by decide) _ _, own_put (T.cc.kept hg (ownsRow_apart T.cc T.inv (by decide))) B (by decide) _ _, own_put (T.uu.kept hg (ownsRow_apart T.uu T.inv (by decide))) B (by decide) _ _,
    own_put (by rw [List.length_append, List.map_append]; exact hown) B (by decide) _ _, fun j hj => own_put ((T.crow j hj).kept hg (T.a3 j hj)) B (by decide) _ _, fun j hj => own_put ((T.urow j hj).kept hg (T.a4 j hj)) B (by decide) _ _,
    T.a1, T.a2, fun j hj => (T.a3 j hj).grown (T.crow j hj) hat, fun j hj => (T.a4 j hj).grown (T.urow j hj) hat, T.a5, T.a6, (grown_new T.ext hg fun k e => (T.inv.lt k e).1).trans (setCell_grown _ _ _), (T.ko.trans (ko_grown T.inv hg)).trans (KeepsOthers.setCell _ _ _)⟩
/-- a rest more -/
theorem Tk.addU (T : Tk w0 wK w g p R K I C U rv cv Cv Uv iv cs us) {v' u : Value} {l : List Int} (hown : w1.ownsRow w0.heap.size 23 1 v' (U.length + 1) (us ++ [u])) (hg : w.grownBy w1 Uv.ownBlock) (hat : v'.ownBlock = Uv.ownBlock ∨ v'.ownBlock = some w.heap.size)
    (hu : w.ownsRow w0.heap.size 22 1 u l.length (l.map (Value.int .u64))) (hi : Ap u iv) (hc : ∀ j, j < C.length → Ap (cs.getD j undef) u) :
    Tk w0 wK (w1.setCell ⟨g, 3, none⟩ v') g p R K I C (U ++ [l]) rv cv Cv v' iv cs (us ++ [u]) := by
  have B := T.box' T.uu (by decide) hg
  have hlu := T.lu
  refine ⟨B.set_ 3 v', own_put (T.rows.kept hg (ownsRow_apart T.rows T.uu (by decide))) B (by decide) _ _, own_put (T.cols.kept hg (ownsRow_apart T.cols T.uu (by decide))) B (by decide) _ _, own_put (T.cc.kept hg T.a2) B (by decide) _ _, own_put (by rw [List.length_append]; exact hown) B (by decide) _ _,
    own_put (T.inv.kept hg (ownsRow_apart T.inv T.uu (by decide))) B (by decide) _ _, fun j hj => own_put ((T.crow j hj).kept hg (ownsRow_apart (T.crow j hj) T.uu (by decide))) B (by decide) _ _, fun j hj => ?_,
    T.a1, T.a2.grown T.cc hat, T.a3, fun j hj => ?_, T.a5, fun j k hj hk => ?_, (grown_new T.ext hg fun k e => (T.uu.lt k e).1).trans (setCell_grown _ _ _), (T.ko.trans (ko_grown T.uu hg)).trans (KeepsOthers.setCell _ _ _)⟩
  · rw [List.length_append, List.length_cons, List.length_nil] at hj
    rw [getD_snoc, getD_snoc]
    by_cases e : j < U.length
    · rw [if_pos (by omega), if_pos e]
      exact own_put ((T.urow j e).kept hg (ownsRow_apart (T.urow j e) T.uu (by decide))) B (by decide) _ _
    · rw [if_neg (by omega), if_neg e, if_pos (by omega), if_pos (by omega)]
      exact own_put (hu.kept hg (ownsRow_apart hu T.uu (by decide))) B (by decide) _ _
  · rw [List.length_append, List.length_cons, List.length_nil] at hj
    rw [getD_snoc]
    by_cases e : j < U.length
    · rw [if_pos (by omega)]; exact T.a4 j e
    · rw [if_neg (by omega), if_pos (by omega)]; exact hi
  · rw [List.length_append, List.length_cons, List.length_nil] at hk
    rw [getD_snoc]
    by_cases e : k < U.length
    · rw [if_pos (by omega)]; exact T.a6 j k hj e
    · rw [if_neg (by omega), if_pos (by omega)]; exact hc j hj
/-- a row's multiples more -/
theorem Tk.addC (T : Tk w0 wK w g p R K I C U rv cv Cv Uv iv cs us) {v' u : Value} {l : List Int} (hown : w1.ownsRow w0.heap.size 23 1 v' (C.length + 1) (cs ++ [u])) (hg : w.grownBy w1 Cv.ownBlock) (hat : v'.ownBlock = Cv.ownBlock ∨ v'.ownBlock = some w.heap.size)
    (hu : w.ownsRow w0.heap.size 22 1 u l.length (l.map (Value.int .u64))) (hi : Ap u iv) (hc : ∀ j, j < C.length → Ap (cs.getD j undef) u) (hU : ∀ j, j < U.length → Ap u (us.getD j undef)) :
    Tk w0 wK (w1.setCell ⟨g, 2, none⟩ v') g p R K I (C ++ [l]) U rv cv v' Uv iv (cs ++ [u]) us := by
  have B := T.box' T.cc (by decide) hg
  have hlc := T.lc
  refine ⟨B.set_ 2 v', own_put (T.rows.kept hg (ownsRow_apart T.rows T.cc (by decide))) B (by decide) _ _, own_put (T.cols.kept hg (ownsRow_apart T.cols T.cc (by decide))) B (by decide) _ _, own_put (by rw [List.length_append]; exact hown) B (by decide) _ _, own_put (T.uu.kept hg T.a2.symm) B (by decide) _ _,
    own_put (T.inv.kept hg (ownsRow_apart T.inv T.cc (by decide))) B (by decide) _ _, fun j hj => ?_, fun j hj => own_put ((T.urow j hj).kept hg (ownsRow_apart (T.urow j hj) T.cc (by decide))) B (by decide) _ _,
    T.a1, (T.a2.symm.grown T.uu hat).symm, fun j hj => ?_, T.a4, fun j k hj hk hjk => ?_, fun j k hj hk => ?_, (grown_new T.ext hg fun k e => (T.cc.lt k e).1).trans (setCell_grown _ _ _), (T.ko.trans (ko_grown T.cc hg)).trans (KeepsOthers.setCell _ _ _)⟩
  · rw [List.length_append, List.length_cons, List.length_nil] at hj
    rw [getD_snoc, getD_snoc]
    by_cases e : j < C.length
    · rw [if_pos (by omega), if_pos e]
      exact own_put ((T.crow j e).kept hg (ownsRow_apart (T.crow j e) T.cc (by decide))) B (by decide) _ _
    · rw [if_neg (by omega), if_neg e, if_pos (by omega), if_pos (by omega)]
      exact own_put (hu.kept hg (ownsRow_apart hu T.cc (by decide))) B (by decide) _ _
  · rw [List.length_append, List.length_cons, List.length_nil] at hj
    rw [getD_snoc]
    by_cases e : j < C.length
    · rw [if_pos (by omega)]; exact T.a3 j e
    · rw [if_neg (by omega), if_pos (by omega)]; exact hi
  · rw [List.length_append, List.length_cons, List.length_nil] at hj hk
    rw [getD_snoc, getD_snoc]
    by_cases e : j < C.length
    · rw [if_pos (by omega)]
      by_cases e2 : k < C.length
      · rw [if_pos (by omega)]; exact T.a5 j k e e2 hjk
      · rw [if_neg (by omega), if_pos (by omega)]; exact hc j e
    · rw [if_neg (by omega), if_pos (by omega), if_pos (by omega)]
      exact (hc k (by omega)).symm
  · rw [List.length_append, List.length_cons, List.length_nil] at hj
    rw [getD_snoc]
    by_cases e : j < C.length
    · rw [if_pos (by omega)]; exact T.a6 j k e hk
    · rw [if_neg (by omega), if_pos (by omega)]; exact hU k hk
end

/-- what isn't cells may change -/
theorem Tk.own {w0 wK w w1 : World} {g : Nat} {p : Int} {R K I : List Int} {C U : List (List Int)} {rv cv Cv Uv iv : Value} {cs us : List Value} (T : Tk w0 wK w g p R K I C U rv cv Cv Uv iv cs us) {row : Option Nat} (hg : w.grownBy w1 row) (hr : ∀ r, row = some r → w0.heap.size ≤ r ∧ ∃ o : Obj, w.heap[r]? = some o ∧ o.isCells = false) {wL : World} (hk : KeepsOthers wL w1) :
    Tk w0 wL w1 g p R K I C U rv cv Cv Uv iv cs us :=
  have hr' := fun r e => (hr r e).2
  ⟨T.box.grown hg (fun e => by
    obtain ⟨o, ho, hc⟩ := hr' g e
    rw [show w.heap[g]? = _ from T.box] at ho; cases ho; cases hc), own_kept T.rows hg hr', own_kept T.cols hg hr', own_kept T.cc hg hr', own_kept T.uu hg hr', own_kept T.inv hg hr', fun j hj => own_kept (T.crow j hj) hg hr', fun j hj => own_kept (T.urow j hj) hg hr',
    T.a1, T.a2, T.a3, T.a4, T.a5, T.a6, grown_new T.ext hg fun q e => (hr q e).1, hk⟩
/-- the inverses of the rests' numbers in their columns -/
noncomputable def invsL (p : Int) (st : ElE) : List Int := tab st.U.length fun k => minv p ((st.U.getD k []).getD (st.cols.getD k 0) 0)
def rowsZ (st : ElE) : List Int := st.rows.map fun k : Nat => (k : Int)
/-- the taker's state, in memory -/
def TkS (w0 wK w : World) (g : Nat) (p : Int) (st : ElE) : Prop := ∃ rv cv Cv Uv iv cs us, Tk w0 wK w g p (rowsZ st) (colsZ st) (invsL p st) st.C st.U rv cv Cv Uv iv cs us
theorem TkS.ext' {w0 wK w w1 : World} {g : Nat} {p : Int} {st : ElE} (h : TkS w0 wK w g p st) (x : Ext w w1) : TkS w0 wK w1 g p st := by
  obtain ⟨rv, cv, Cv, Uv, iv, cs, us, T⟩ := h
  exact ⟨rv, cv, Cv, Uv, iv, cs, us, T.ext' x⟩
/-- a row that lies apart from all grows: all stays -/
theorem Tk.keep {w0 wK w w1 : World} {g : Nat} {p : Int} {R K I : List Int} {C U : List (List Int)} {rv cv Cv Uv iv : Value} {cs us : List Value} (T : Tk w0 wK w g p R K I C U rv cv Cv Uv iv cs us) {b n : Nat} {v : Value} {xs : List Value} (h : w.ownsRow b 22 1 v n xs) (hb : w0.heap.size ≤ b) (hg : w.grownBy w1 v.ownBlock)
    (hi : Ap iv v) (hc : ∀ j, j < C.length → Ap (cs.getD j undef) v) (hu : ∀ j, j < U.length → Ap (us.getD j undef) v) : Tk w0 wK w1 g p R K I C U rv cv Cv Uv iv cs us :=
  ⟨T.box' h (by decide) hg, T.rows.kept hg (ownsRow_apart T.rows h (by decide)), T.cols.kept hg (ownsRow_apart T.cols h (by decide)), T.cc.kept hg (ownsRow_apart T.cc h (by decide)), T.uu.kept hg (ownsRow_apart T.uu h (by decide)), T.inv.kept hg hi, fun j hj => (T.crow j hj).kept hg (hc j hj), fun j hj => (T.urow j hj).kept hg (hu j hj),
    T.a1, T.a2, T.a3, T.a4, T.a5, T.a6, grown_new T.ext hg fun k e => Nat.le_trans hb (h.lt k e).1, T.ko.trans (ko_grown h hg)⟩
theorem getD_out {α : Type} {l : List α} {d : α} {j : Nat} (h : j < l.length) (x : α) : (l ++ [x]).getD j d = l.getD j d := by rw [getD_snoc, if_pos h]
theorem invsL_snoc {p : Int} {n i : Nat} {Rf : Nat → List Int} {st : ElE} (ok : ElOk p n Rf i st) (C : List (List Int)) (R : List Nat) (L : Nat) (l : List Int) : invsL p ⟨C, R, st.cols ++ [L], st.U ++ [l]⟩ = invsL p st ++ [minv p (l.getD L 0)] := by
  have hk := ok.lk
  unfold invsL
  rw [List.length_append, List.length_cons, List.length_nil, Nat.zero_add, tab_succ]
  congr 1
  · exact tab_congr fun j hj => by rw [getD_out hj, getD_out (show j < st.cols.length by omega)]
  · rw [getD_snoc, if_neg (by omega), if_pos rfl, getD_snoc, if_neg (by omega), if_pos hk.symm]
theorem rowsZ_snoc (st : ElE) (C : List (List Int)) (K : List Nat) (U : List (List Int)) (i : Nat) : rowsZ ⟨C, st.rows ++ [i], K, U⟩ = rowsZ st ++ [(i : Int)] := by simp [rowsZ]
theorem colsZ_snoc (st : ElE) (C : List (List Int)) (R : List Nat) (U : List (List Int)) (i : Nat) : colsZ ⟨C, R, st.cols ++ [i], U⟩ = colsZ st ++ [(i : Int)] := by simp [colsZ]
end Go.Proofs.Ytdfkojbfgodegaa
