import Derived.Test.YthomeenmcajmdaaGreatDoorSv1
import Derived.Test.YthomeenmcajmdaaGreatDoorBun24
import Derived.Test.YthomeenmcajmdaaGreatDoorBun22
namespace Go.Proofs.YthomeenmcajmdaaGreatDoor
open Go.RowKit Go.Maps
structure PtM (w : World) (C U : List (List Int)) (R K : List Nat) (rv kv Cv Uv : Value) : Prop where
  rows : Ints .i64 w rv (zL R)
  cols : Ints .i64 w kv (zL K)
  cc : UsL w Cv C
  uu : UsL w Uv U
theorem PtM.ext {w w' : World} {C U : List (List Int)} {R K : List Nat} {rv kv Cv Uv : Value} (h : PtM w C U R K rv kv Cv Uv) (x : Ext w w') : PtM w' C U R K rv kv Cv Uv := ⟨h.rows.ext x, h.cols.ext x, h.cc.ext x, h.uu.ext x⟩
def apV (rv kv Cv Uv : Value) (p n : Int) : Value := .agg #[rv, kv, Cv, Uv, .int .u64 p, .int .i64 n]
def RetAp (p : Int) (n : Nat) (C U : List (List Int)) (R K : List Nat) (w : World) (e : Ending) (w' : World) : Prop := ∃ rv kv Cv Uv, e = .returned (.tuple #[apV rv kv Cv Uv p n, .int .i64 0]) ∧ PtM w' C U R K rv kv Cv Uv ∧ Ext w w'
theorem RetCupO.parts {rows cols : List Int} {C U : List (List Int)} {w w' w9 : World} {rv cv Cv Uv : Value} {cs us : List Value} {R K : List Nat} {g : Nat} (er : zL R = rows) (ek : zL K = cols)
    (h1 : w'.ownsRow w.heap.size 3 1 rv rows.length (rows.map (Value.int .i64))) (h2 : w'.ownsRow w.heap.size 3 1 cv cols.length (cols.map (Value.int .i64)))
    (h3 : w'.ownsRow w.heap.size 24 1 Cv C.length cs) (h4 : w'.ownsRow w.heap.size 24 1 Uv U.length us) (h5 : ∀ j, j < C.length → w'.ownsRow w.heap.size 22 1 (cs.getD j undef) (C.getD j []).length ((C.getD j []).map (Value.int .u64)))
    (h6 : ∀ j, j < U.length → w'.ownsRow w.heap.size 22 1 (us.getD j undef) (U.getD j []).length ((U.getD j []).map (Value.int .u64))) (hg : g < w.heap.size) (hw : w'.grownBy w9 (some g)) : PtM w9 C U R K rv cv Cv Uv := by
  have key : ∀ {e : TypeId} {v : Value} {n : Nat} {xs : List Value}, w'.ownsRow w.heap.size e 1 v n xs → w9.ownsRow w.heap.size e 1 v n xs := fun h => h.kept hw (by
    rcases hv : Value.ownBlock _ with _ | k
    · exact .inl rfl
    · exact .inr fun e => by injection e with e; have := (h.lt k hv).1; omega)
  subst er; subst ek
  exact ⟨(owns_ints (key h1)).choose_spec.choose_spec.2.2, (owns_ints (key h2)).choose_spec.choose_spec.2.2, UsL.of_own (key h3) rfl fun j hj => key (h5 j hj), UsL.of_own (key h4) rfl fun j hj => key (h6 j hj)⟩
set_option maxHeartbeats 1000000 in
theorem svTake (p : Int) (m n : Nat) (v : Value) (xs : List Int) (w : World) (ok : MatOk p m n xs) (hf : Fld p) (hv : Ints .u64 w v xs) : Calls Tryz.prog 119 #[.int .u64 p, matV m n v] w
    (RetAp p n ((takeL p m n xs).C.map (padL (takeL p m n xs).U.length)) (takeL p m n xs).U (takeL p m n xs).rows (takeL p m n xs).cols w) := by
  have C := hid fun (W : World) (hW : Ext w W) => cmTakeO p m n v xs W ok hf (hv.ext hW)
  obtain ⟨pr, epr⟩ : ∃ pr, profZ p m n xs = pr := ⟨_, rfl⟩
  have epr2 : zL (takeL p m n xs).rows = pr := by rw [← epr]; rfl
  obtain ⟨ck, eck⟩ : ∃ ck, colsZ (takeL p m n xs) = ck := ⟨_, rfl⟩
  have eck2 : zL (takeL p m n xs).cols = ck := by rw [← eck]; rfl
  have E1 := hid epr2; have E2 := hid eck2
  rw [epr, eck] at C
  obtain ⟨CC, eC⟩ : ∃ CC, (takeL p m n xs).C.map (padL (takeL p m n xs).U.length) = CC := ⟨_, rfl⟩
  rw [eC] at C ⊢
  obtain ⟨UU, eU⟩ : ∃ UU, (takeL p m n xs).U = UU := ⟨_, rfl⟩
  rw [eU] at C ⊢
  obtain ⟨a, cap, rfl, k1, k2, k3⟩ := hv
  unfold matV at C ⊢
  have hb2 := hid (boxes2 w 26 147 #[.int .i64 (m : Int), .int .i64 (n : Int), .slice a xs.length cap] #[.slice none 0 0, .slice none 0 0, .slice none 0 0, .slice none 0 0, .int .u64 0, .int .i64 0])
  obtain ⟨Rw, eR⟩ : ∃ Rw, (takeL p m n xs).rows = Rw := ⟨_, rfl⟩
  obtain ⟨Kw, eK⟩ : ∃ Kw, (takeL p m n xs).cols = Kw := ⟨_, rfl⟩
  rw [eR] at E1 ⊢; rw [eK] at E2 ⊢
  clear k3 ok epr epr2 eck eck2 eC eU hf eR eK
  go_enter Tryz.func119, Tryz.ntmps119
  go_wp2_with (go_at_call 43; refine (C.out _ (by repeat (first | exact Ext.refl _ | assumption | refine Ext.drew ?_ | refine Ext.drewN ?_ _ | refine Ext.alloc ?_ _ | refine Ext.trans ?_ (by assumption)))).mono ?_; rintro _ w1 ⟨rv, cv, Cv, Uv, cs, us, rfl, h1, h2, h3, h4, h5, h6, x1⟩
               have H1 := hid h1; have H2 := hid h2; have H3 := hid h3; have H4 := hid h4; have H5 := hid h5; have H6 := hid h6
               clear h5 h6
               obtain ⟨ar, cr, rfl, -⟩ := own_slice h1
               obtain ⟨ac, cc, rfl, -⟩ := own_slice h2
               obtain ⟨aC, cC, rfl, -⟩ := own_slice h3
               obtain ⟨aU, cU, rfl, -⟩ := own_slice h4
               clear h1 h2 h3 h4
               have HR := hid ((hb2.out.2.1.ext x1).ext ((Ext.refl w1).alloc (.cells #[.slice ar pr.length cr, .slice ac ck.length cc, .slice aC CC.length cC, .slice aU UU.length cU] 58)))
               have c1 := ((hb2.out.1.ext x1).ext ((Ext.refl w1).alloc (.cells #[.slice ar pr.length cr, .slice ac ck.length cc, .slice aC CC.length cC, .slice aU UU.length cU] 58))).cell 1
               have f0 := HR.out.frozen 0; have f1 := HR.out.frozen 1; have f2 := HR.out.frozen 2; have f3 := HR.out.frozen 3; have f4 := HR.out.frozen 4; have f5 := HR.out.frozen 5
               have r0 := HR.out.cell 0; have r1 := HR.out.cell 1; have r2 := HR.out.cell 2; have r3 := HR.out.cell 3; have r4 := HR.out.cell 4; have r5 := HR.out.cell 5)
  have FF := (((((HR.out.set_ 0 (.slice ar pr.length cr)).set_ 1 (.slice ac ck.length cc)).set_ 2 (.slice aC CC.length cC)).set_ 3 (.slice aU UU.length cU)).set_ 4 (.int .u64 p)).set_ 5 (.int .i64 (n : Int))
  have hgr : w1.grownBy _ (some (w.heap.size + 1)) := ((((((((Ext.refl w1).alloc (.cells #[.slice ar pr.length cr, .slice ac ck.length cc, .slice aC CC.length cC, .slice aU UU.length cU] 58)).grownBy (some (w.heap.size + 1))).trans (setCell_grown _ ⟨w.heap.size + 1, 0, none⟩ (.slice ar pr.length cr))).trans (setCell_grown _ ⟨w.heap.size + 1, 1, none⟩ (.slice ac ck.length cc))).trans (setCell_grown _ ⟨w.heap.size + 1, 2, none⟩ (.slice aC CC.length cC))).trans (setCell_grown _ ⟨w.heap.size + 1, 3, none⟩ (.slice aU UU.length cU))).trans (setCell_grown _ ⟨w.heap.size + 1, 4, none⟩ (.int .u64 p))).trans (setCell_grown _ ⟨w.heap.size + 1, 5, none⟩ (.int .i64 (n : Int)))
  have hX : Ext w w1 := (by repeat (first | exact Ext.refl _ | assumption | refine Ext.drew ?_ | refine Ext.drewN ?_ _ | refine Ext.alloc ?_ _ | refine Ext.trans ?_ (by assumption)))
  have hX9 := grown_ext hgr hX (Nat.le_succ _)
  have hP := RetCupO.parts E1.out E2.out H1.out H2.out H3.out H4.out H5.out H6.out (by simp) hgr
  refine bodyPost_ret (results_cell_row_tmp rfl _ _ (w.heap.size + 1) 147 _ (0, 0) _ rfl FF Tryz.underlying147 rfl (by kernel_rfl)) rfl ?_
  exact ⟨_, _, _, _, rfl, hP, hX9⟩
end Go.Proofs.YthomeenmcajmdaaGreatDoor
namespace Go.Proofs.YthomeenmcajmdaaGreatDoor
open Go.RowKit Go.Shelf
attribute [local go_sem] Oper.semAt_some
set_option maxRecDepth 100000 in
set_option maxHeartbeats 2000000 in
theorem backX1S_in {α : Type} (ix : α → Nat) (enc : α → Value) (F : Fence) (n : Nat) (h8 : F.fn 175) (hro : F.round = none) (hn : 1 ≤ n) (l Bs b off len cap : Nat) (zs : List α) (hlen : zs.length = len) (hix : ∀ j (hj : j < zs.length), ix zs[j] = j) (h63 : len ≤ 1000000) (J Jx : List α → World → Prop)
    (hY : ∀ pre x W, J pre W → pre.length < len → YieldAt F (n - 1) Tryz.prog l #[.int .i64 (ix x : Int), enc x] W fun e W' =>
      (e = .returned (.bool true) ∧ J (pre ++ [x]) W' ∧ KeepsRow Bs b W W') ∨ (e = .returned (.bool false) ∧ Jx (pre ++ [x]) W'))
    (W : World) (hBs : W.cell? ⟨Bs, 0, none⟩ = some (.slice (some ⟨b, off, none⟩) len cap)) (hc : ∀ j (hj : j < zs.length), W.cell? ⟨b, off + j, none⟩ = some (enc zs[j])) (h0 : J [] W) :
    CallsIn F n Tryz.prog 175 #[.func (.yield l) #[] #[], .pointer (some ⟨Bs, 0, none⟩)] W fun e W' => (∃ v, e = .returned v) ∧
      ((∃ ys : List α, ys = zs.reverse ∧ J ys W') ∨ (∃ pre, True ∧ Jx pre W')) := by
  refine callsIn_of_wp Tryz.func175 rfl h8 ?_ hro
  simp only [Tryz.ntmps175, List.size_toArray, List.length_cons, List.length_nil, Nat.reduceAdd, Nat.reduceSub, Array.replicate_succ, Array.replicate_zero, List.push_toArray, List.append_toArray, List.nil_append, List.cons_append]
  have Hc := hid hc; have Hix := hid hix
  clear hc hix
  gi_wp2
  gi_loopw [3] (fun i wr => ∃ (z : Int) (m : Nat) (pre : List α), i = .int .i64 z ∧ z + 1 = (m : Int) ∧ m ≤ len ∧ Hid (pre.length + m = len) ∧ Hid (pre = (zs.drop m).reverse) ∧ J pre wr ∧ KeepsRow Bs b W wr)
    (fun i _ => (intOf i + 1).toNat)
  case atStart => exact ⟨(len : Int) - 1, len, [], rfl, by omega, Nat.le_refl _, hid (by simp), hid (by rw [List.drop_of_length_le (by omega)]; rfl), h0, KeepsRow.refl _ _ _⟩
  case round =>
    obtain ⟨z, m, pre, rfl, hz, hm, hpl, hpm, hJs, hnx⟩ := hrel
    have hbx := (hnx.1).trans hBs
    cases m with
    | zero =>
      obtain rfl : z = -1 := by omega
      gi_wp2
      go_end0
      exact ⟨⟨_, rfl⟩, .inl ⟨pre, by rw [hpm.out]; simp, hJs⟩⟩
    | succ k =>
      obtain rfl : z = (k : Int) := by omega
      have hcx := (hnx.2 (off + k)).trans (Hc.out k (by omega))
      have hik := Hix.out k (by omega)
      obtain ⟨x, hx⟩ : ∃ x, zs[k]'(by omega) = x := ⟨_, rfl⟩
      rw [hx] at hcx hik
      have Hx := hid hx
      clear hx
      obtain ⟨fn, tmps, assign, body, hy, hR⟩ := hY _ x _ hJs (by have := hpl.out; omega)
      rw [hik] at hy
      clear hik
      gi_wp2
      refine hR.mono ?_
      rintro e W3 (⟨rfl, hJ3, hk3⟩ | ⟨rfl, hJx3⟩)
      · gi_wp2
        go_roundw
        case rel =>
          refine ⟨(k : Int) - 1, k, pre ++ [x], by go_num, by omega, by omega, hid (by have := hpl.out; simp; omega), hid ?_, hJ3, hnx.trans hk3⟩
          rw [hpm.out, List.drop_eq_getElem_cons (i := k) (by omega), List.reverse_cons, ← Hx.out]
        case measure => simp [intOf]
      · gi_wp2
        refine bodyPost_ret (results_none rfl _ _ _) rfl ?_
        exact ⟨⟨_, rfl⟩, .inr ⟨_, trivial, hJx3⟩⟩
set_option maxRecDepth 100000 in
set_option maxHeartbeats 1000000 in
theorem backX1S_nil_in {α : Type} (F : Fence) (n : Nat) (h8 : F.fn 175) (hro : F.round = none) (l Bs cap : Nat) (a : Option Addr) (J : List α → World → Prop)
    (W : World) (hBs : W.cell? ⟨Bs, 0, none⟩ = some (.slice a 0 cap)) (h0 : J [] W) :
    CallsIn F n Tryz.prog 175 #[.func (.yield l) #[] #[], .pointer (some ⟨Bs, 0, none⟩)] W fun e W' => (∃ v, e = .returned v) ∧ J [] W' := by
  refine callsIn_of_wp Tryz.func175 rfl h8 ?_ hro
  simp only [Tryz.ntmps175, List.size_toArray, List.length_cons, List.length_nil, Nat.reduceAdd, Nat.reduceSub, Array.replicate_succ, Array.replicate_zero, List.push_toArray, List.append_toArray, List.nil_append, List.cons_append]
  gi_wp2
  gi_loopw [3] (fun i wr => i = .int .i64 (-1) ∧ J [] wr) (fun _ _ => 0)
  case atStart => exact ⟨rfl, h0⟩
  case round =>
    obtain ⟨rfl, hJs⟩ := hrel
    gi_wp2
    go_end0
    exact ⟨⟨_, rfl⟩, hJs⟩
set_option maxHeartbeats 1000000 in
theorem backXS_in (F : Fence) (n : Nat) (h5 : F.fn 169) (hro : F.round = none) (a : Option Addr) (len cap : Nat) (w : World) :
    CallsIn F n Tryz.prog 169 #[.slice a len cap] w fun e w' => e = .returned (.func (.func 175) #[] #[.pointer (some ⟨w.heap.size, 0, none⟩)]) ∧ w' = w.alloc (.cells #[.slice a len cap] 56) := by
  refine callsIn_of_wp Tryz.func169 rfl h5 ?_ hro
  simp only [Tryz.ntmps169, List.size_toArray, List.length_cons, List.length_nil, Nat.reduceAdd, Nat.reduceSub, Array.replicate_succ, Array.replicate_zero, List.push_toArray, List.append_toArray, List.nil_append, List.cons_append]
  gi_wp2
  go_ret
  exact ⟨rfl, rfl⟩
theorem backXS_stops {α : Type} (ix : α → Nat) (enc : α → Value) (F : Fence) (n : Nat) (h8 : F.fn 175) (hro : F.round = none) (hn : 1 ≤ n) (Bs len cap : Nat) (a : Option Addr) (zs : List α) (hlen : zs.length = len) (hix : ∀ j (hj : j < zs.length), ix zs[j] = j) (h63 : len ≤ 1000000) (w : World) (hBs : Bs < w.heap.size)
    (hc : w.cell? ⟨Bs, 0, none⟩ = some (.slice a len cap)) (hI : 0 < len → ∃ b off, a = some ⟨b, off, none⟩ ∧ b < w.heap.size ∧ ∀ j (hj : j < zs.length), w.cell? ⟨b, off + j, none⟩ = some (enc zs[j])) (bq : Nat) (hbq : 0 < len → ∃ off, a = some ⟨bq, off, none⟩) :
    SeqStopsK F n Tryz.prog 175 #[.pointer (some ⟨Bs, 0, none⟩)] (fun x : α => #[Value.int .i64 (ix x : Int), enc x]) (KeepsRow Bs bq) (fun ys => ys = zs.reverse) (fun _ => True) zs.length w := fun l J Jx W hW _ _ hY h0 => by
  have hc' := (hW.cell (p := ⟨Bs, 0, none⟩) hBs).trans hc
  rcases Nat.eq_zero_or_pos len with h | h
  · subst h
    obtain rfl : zs = [] := List.eq_nil_of_length_eq_zero hlen
    exact (backX1S_nil_in F n h8 hro l Bs cap a J W hc' h0).mono fun e W' ⟨he, hj⟩ => ⟨he, .inl ⟨[], rfl, hj⟩⟩
  · obtain ⟨b, off, rfl, hb, hcs⟩ := hI h
    obtain ⟨off', e⟩ := hbq h
    injection e with e
    injection e with e1 _
    subst e1
    exact backX1S_in ix enc F n h8 hro hn l Bs b off len cap zs hlen hix h63 J Jx (by rw [hlen] at hY; exact hY) W hc' (fun j hj => (hW.cell (p := ⟨b, off + j, none⟩) hb).trans (hcs j hj)) h0
end Go.Proofs.YthomeenmcajmdaaGreatDoor
