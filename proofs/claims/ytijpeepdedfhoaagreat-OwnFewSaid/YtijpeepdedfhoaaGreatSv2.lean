/- Package solve: a matrix is taken apart. -/
import Derived.Test.YtijpeepdedfhoaaGreatBun18
import Derived.Test.YtijpeepdedfhoaaGreatBun26
namespace Go.Proofs.YtijpeepdedfhoaaGreat
open Go.RowKit Go.Maps

/-- a matrix's parts in memory -/
structure PtM (w : World) (C U : List (List Int)) (R K : List Nat) (rv kv Cv Uv : Value) : Prop where
  rows : Ints .i64 w rv (zL R)
  cols : Ints .i64 w kv (zL K)
  cc : UsL w Cv C
  uu : UsL w Uv U
theorem PtM.ext {w w' : World} {C U : List (List Int)} {R K : List Nat} {rv kv Cv Uv : Value} (h : PtM w C U R K rv kv Cv Uv) (x : Ext w w') : PtM w' C U R K rv kv Cv Uv := ⟨h.rows.ext x, h.cols.ext x, h.cc.ext x, h.uu.ext x⟩
/-- parts as a value -/
def apV (rv kv Cv Uv : Value) (p n : Int) : Value := .agg #[rv, kv, Cv, Uv, .int .u64 p, .int .i64 n]
/-- what taking a matrix apart answers -/
def RetAp (p : Int) (n : Nat) (C U : List (List Int)) (R K : List Nat) (w : World) (e : Ending) (w' : World) : Prop := ∃ rv kv Cv Uv, e = .returned (.tuple #[apV rv kv Cv Uv p n, .int .i64 0]) ∧ PtM w' C U R K rv kv Cv Uv ∧ Ext w w'
/-- parts that are all the call's own, where an elder block is set -/
theorem RetCupO.parts {rows cols : List Int} {C U : List (List Int)} {w w' w9 : World} {rv cv Cv Uv : Value} {cs us : List Value} {R K : List Nat} {g : Nat} (er : zL R = rows) (ek : zL K = cols)
    (h1 : w'.ownsRow w.heap.size 3 1 rv rows.length (rows.map (Value.int .i64))) (h2 : w'.ownsRow w.heap.size 3 1 cv cols.length (cols.map (Value.int .i64)))
    (h3 : w'.ownsRow w.heap.size 23 1 Cv C.length cs) (h4 : w'.ownsRow w.heap.size 23 1 Uv U.length us) (h5 : ∀ j, j < C.length → w'.ownsRow w.heap.size 22 1 (cs.getD j undef) (C.getD j []).length ((C.getD j []).map (Value.int .u64)))
    (h6 : ∀ j, j < U.length → w'.ownsRow w.heap.size 22 1 (us.getD j undef) (U.getD j []).length ((U.getD j []).map (Value.int .u64))) (hg : g < w.heap.size) (hw : w'.grownBy w9 (some g)) : PtM w9 C U R K rv cv Cv Uv := by
  have key : ∀ {e : TypeId} {v : Value} {n : Nat} {xs : List Value}, w'.ownsRow w.heap.size e 1 v n xs → w9.ownsRow w.heap.size e 1 v n xs := fun h => h.kept hw (by
    rcases hv : Value.ownBlock _ with _ | k
    · exact .inl rfl
    · exact .inr fun e => by injection e with e; have := (h.lt k hv).1; omega)
  subst er; subst ek
  exact ⟨(owns_ints (key h1)).choose_spec.choose_spec.2.2, (owns_ints (key h2)).choose_spec.choose_spec.2.2, UsL.of_own (key h3) rfl fun j hj => key (h5 j hj), UsL.of_own (key h4) rfl fun j hj => key (h6 j hj)⟩
set_option maxHeartbeats 1000000 in
theorem svTake (p : Int) (m n : Nat) (v : Value) (xs : List Int) (w : World) (ok : MatOk p m n xs) (hf : Fld p) (hv : Ints .u64 w v xs) : Calls Tryz.prog 87 #[.int .u64 p, matV m n v] w
    (RetAp p n ((takeL p m n xs).C.map (padL (takeL p m n xs).U.length)) (takeL p m n xs).U (takeL p m n xs).rows (takeL p m n xs).cols w) := by
  have C := hid fun (W : World) (hW : Ext w W) => cmTakeO p m n v xs W ok hf (hv.ext hW)
  obtain ⟨pr, epr⟩ : ∃ pr, profZ p m n xs = pr := ⟨_, rfl⟩
  have epr2 : zL (takeL p m n xs).rows = pr := by rw [← epr]; rfl
  obtain ⟨ck, eck⟩ : ∃ ck, colsZ (takeL p m n xs) = ck := ⟨_, rfl⟩
  have eck2 : zL (takeL p m n xs).cols = ck := by rw [← eck]; rfl
  have E1 := hid epr2; have E2 := hid eck2
  rw [epr, eck] at C
  obtain ⟨CC, eC⟩ : ∃ CC, (takeL p m n xs).C.map (padL (takeL p m n xs).U.length) = CC := ⟨_, rfl⟩
  rw [eC] at C ⊢
  obtain ⟨UU, eU⟩ : ∃ UU, (takeL p m n xs).U = UU := ⟨_, rfl⟩
  rw [eU] at C ⊢
  obtain ⟨a, cap, rfl, k1, k2, k3⟩ := hv
  unfold matV at C ⊢
  have hb2 := hid (boxes2 w 25 113 #[.int .i64 (m : Int), .int .i64 (n : Int), .slice a xs.length cap] #[.slice none 0 0, .slice none 0 0, .slice none 0 0, .slice none 0 0, .int .u64 0, .int .i64 0])
  obtain ⟨Rw, eR⟩ : ∃ Rw, (takeL p m n xs).rows = Rw := ⟨_, rfl⟩
  obtain ⟨Kw, eK⟩ : ∃ Kw, (takeL p m n xs).cols = Kw := ⟨_, rfl⟩
  rw [eR] at E1 ⊢; rw [eK] at E2 ⊢
  clear k3 ok epr epr2 eck eck2 eC eU hf eR eK
  go_enter Tryz.func87, Tryz.ntmps87
  go_wp2_with (go_at_call 97; refine (C.out _ (by repeat (first | exact Ext.refl _ | assumption | refine Ext.drew ?_ | refine Ext.drewN ?_ _ | refine Ext.alloc ?_ _ | refine Ext.trans ?_ (by assumption)))).mono ?_; rintro _ w1 ⟨rv, cv, Cv, Uv, cs, us, rfl, h1, h2, h3, h4, h5, h6, x1⟩
               have H1 := hid h1; have H2 := hid h2; have H3 := hid h3; have H4 := hid h4; have H5 := hid h5; have H6 := hid h6
               clear h5 h6
               obtain ⟨ar, cr, rfl, -⟩ := own_slice h1
               obtain ⟨ac, cc, rfl, -⟩ := own_slice h2
               obtain ⟨aC, cC, rfl, -⟩ := own_slice h3
               obtain ⟨aU, cU, rfl, -⟩ := own_slice h4
               clear h1 h2 h3 h4
               have HR := hid ((hb2.out.2.1.ext x1).ext ((Ext.refl w1).alloc (.cells #[.slice ar pr.length cr, .slice ac ck.length cc, .slice aC CC.length cC, .slice aU UU.length cU] 111)))
               have c1 := ((hb2.out.1.ext x1).ext ((Ext.refl w1).alloc (.cells #[.slice ar pr.length cr, .slice ac ck.length cc, .slice aC CC.length cC, .slice aU UU.length cU] 111))).cell 1
               have f0 := HR.out.frozen 0; have f1 := HR.out.frozen 1; have f2 := HR.out.frozen 2; have f3 := HR.out.frozen 3; have f4 := HR.out.frozen 4; have f5 := HR.out.frozen 5
               have r0 := HR.out.cell 0; have r1 := HR.out.cell 1; have r2 := HR.out.cell 2; have r3 := HR.out.cell 3; have r4 := HR.out.cell 4; have r5 := HR.out.cell 5)
  have FF := (((((HR.out.set_ 0 (.slice ar pr.length cr)).set_ 1 (.slice ac ck.length cc)).set_ 2 (.slice aC CC.length cC)).set_ 3 (.slice aU UU.length cU)).set_ 4 (.int .u64 p)).set_ 5 (.int .i64 (n : Int))
  have hgr : w1.grownBy _ (some (w.heap.size + 1)) := ((((((((Ext.refl w1).alloc (.cells #[.slice ar pr.length cr, .slice ac ck.length cc, .slice aC CC.length cC, .slice aU UU.length cU] 111)).grownBy (some (w.heap.size + 1))).trans (setCell_grown _ ⟨w.heap.size + 1, 0, none⟩ (.slice ar pr.length cr))).trans (setCell_grown _ ⟨w.heap.size + 1, 1, none⟩ (.slice ac ck.length cc))).trans (setCell_grown _ ⟨w.heap.size + 1, 2, none⟩ (.slice aC CC.length cC))).trans (setCell_grown _ ⟨w.heap.size + 1, 3, none⟩ (.slice aU UU.length cU))).trans (setCell_grown _ ⟨w.heap.size + 1, 4, none⟩ (.int .u64 p))).trans (setCell_grown _ ⟨w.heap.size + 1, 5, none⟩ (.int .i64 (n : Int)))
  have hX : Ext w w1 := (by repeat (first | exact Ext.refl _ | assumption | refine Ext.drew ?_ | refine Ext.drewN ?_ _ | refine Ext.alloc ?_ _ | refine Ext.trans ?_ (by assumption)))
  have hX9 := grown_ext hgr hX (Nat.le_succ _)
  have hP := RetCupO.parts E1.out E2.out H1.out H2.out H3.out H4.out H5.out H6.out (by simp) hgr
  refine bodyPost_ret (results_cell_row_tmp rfl _ _ (w.heap.size + 1) 113 _ (0, 0) _ rfl FF Tryz.underlying113 rfl (by kernel_rfl)) rfl ?_
  exact ⟨_, _, _, _, rfl, hP, hX9⟩
end Go.Proofs.YtijpeepdedfhoaaGreat
