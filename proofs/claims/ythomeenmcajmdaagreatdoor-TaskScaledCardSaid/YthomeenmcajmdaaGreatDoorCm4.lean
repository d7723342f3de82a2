import Derived.Test.YthomeenmcajmdaaGreatDoorBun22
import Derived.Test.YthomeenmcajmdaaGreatDoorBun18
import Derived.Deep.RegionLaw
namespace Go.Proofs.YthomeenmcajmdaaGreatDoor
open Go.RowKit Go.Maps
theorem getD_set {α : Type} (l : List α) (i j : Nat) (x d : α) (hi : i < l.length) : (l.set i x).getD j d = if i = j then x else l.getD j d := by
  simp only [List.getD, List.getElem?_set]
  split
  · rfl
  · rfl
theorem Tk.setC {w0 wK w w1 : World} {g : Nat} {p : Int} {R K I : List Int} {C U : List (List Int)} {rv cv Uv iv : Value} {gc N cap : Nat} {cs us : List Value} (T : Tk w0 wK w g p R K I C U rv cv (.slice (some ⟨gc, 0, none⟩) N cap) Uv iv cs us) (hN : C.length = N) {v' : Value} {l : List Int} {j : Nat} (hj : j < N)
    (hown : w1.ownsRow w0.heap.size 22 1 v' l.length (l.map (Value.int .u64))) (hg : w.grownBy w1 (cs.getD j undef).ownBlock) (hat : v'.ownBlock = (cs.getD j undef).ownBlock ∨ v'.ownBlock = some w.heap.size) :
    Tk w0 wK (w1.setCell ⟨gc, j, none⟩ v') g p R K I (C.set j l) U rv cv (.slice (some ⟨gc, 0, none⟩) N cap) Uv iv (cs.set j v') us := by
  subst hN
  have hlc := T.lc
  have TC := T.crow j hj
  have B := T.box' TC (by decide) hg
  have c1 := T.cc.kept hg (ownsRow_apart T.cc TC (by decide))
  have gs := setCell_grown w1 ⟨gc, j, none⟩ v'
  have r1 := T.rows.kept hg (ownsRow_apart T.rows TC (by decide))
  have k1 := T.cols.kept hg (ownsRow_apart T.cols TC (by decide))
  have u1 := T.uu.kept hg (ownsRow_apart T.uu TC (by decide))
  have i1 := T.inv.kept hg (T.a3 j hj).symm
  refine ⟨B.grown gs (by
      rcases ownsRow_blk c1 B (by decide) with e | e
      · simp [Value.ownBlock] at e
      · exact e), r1.kept gs (ownsRow_apart r1 c1 (by decide)), k1.kept gs (ownsRow_apart k1 c1 (by decide)), by rw [List.length_set]; exact (c1.stored j v').1, u1.kept gs T.a2.symm, i1.kept gs (ownsRow_apart i1 c1 (by decide)), fun t ht => ?_, fun t ht => ?_,
    T.a1, T.a2, fun t ht => ?_, T.a4, fun t q ht hq htq => ?_, fun t q ht hq => ?_, grown_new (grown_new T.ext hg fun k e => (TC.lt k e).1) gs fun q e => by injection e with e; have e' : gc = q := e; have h := (T.cc.lt gc rfl).1; omega, (T.ko.trans (ko_grown TC hg)).trans (KeepsOthers.setCell _ _ _)⟩
  · rw [List.length_set] at ht
    rw [getD_set cs j t v' undef (by omega), getD_set C j t l [] hj]
    by_cases e : j = t
    · rw [if_pos e, if_pos e]
      exact hown.kept gs (ownsRow_apart hown c1 (by decide))
    · rw [if_neg e, if_neg e]
      have h1 := (T.crow t ht).kept hg (T.a5 t j ht hj (fun h => e h.symm))
      exact h1.kept gs (ownsRow_apart h1 c1 (by decide))
  · have h1 := (T.urow t ht).kept hg (T.a6 j t hj ht).symm
    exact h1.kept gs (ownsRow_apart h1 c1 (by decide))
  · rw [List.length_set] at ht
    rw [getD_set cs j t v' undef (by omega)]
    by_cases e : j = t
    · rw [if_pos e]; exact (Ap.grown (T.a3 j hj).symm T.inv hat).symm
    · rw [if_neg e]; exact T.a3 t ht
  · rw [List.length_set] at ht hq
    rw [getD_set cs j t v' undef (by omega), getD_set cs j q v' undef (by omega)]
    by_cases e : j = t
    · rw [if_pos e]
      by_cases e2 : j = q
      · exact absurd (e.symm.trans e2) htq
      · rw [if_neg e2]
        exact (Ap.grown (T.a5 q j hq hj (fun h => e2 h.symm)) (T.crow q hq) hat).symm
    · rw [if_neg e]
      by_cases e2 : j = q
      · rw [if_pos e2]
        exact Ap.grown (T.a5 t j ht hj (fun h => e h.symm)) (T.crow t ht) hat
      · rw [if_neg e2]; exact T.a5 t q ht hq htq
  · rw [List.length_set] at ht
    rw [getD_set cs j t v' undef (by omega)]
    by_cases e : j = t
    · rw [if_pos e]; exact (Ap.grown (T.a6 j q hj hq).symm (T.urow q hq) hat).symm
    · rw [if_neg e]; exact T.a6 t q ht hq
set_option maxRecDepth 100000 in
set_option maxHeartbeats 2000000 in
theorem cmFill (p : Int) (r N g : Nat) (w0 wK w : World) (R K I : List Int) (C U : List (List Int)) (rv cv Cv Uv iv : Value) (cs us : List Value) (T : Tk w0 wK w g p R K I C U rv cv Cv Uv iv cs us) (hr : U.length = r) (hN : C.length = N) (hr2 : r ≤ 64) (hN2 : N ≤ 64) (hl : ∀ j, j < N → (C.getD j []).length ≤ r) :
    Calls Tryz.prog 80 #[.pointer (some ⟨g, 0, none⟩)] w fun e w' => e = .returned (.tuple #[]) ∧ ∃ cs', Tk w0 wK w' g p R K I (C.map (padL r)) U rv cv Cv Uv iv cs' us := by
  obtain ⟨iu, hiu, hu0, hu1, hu2⟩ := info_parts info_u64p
  have HT := hid T; have Hl := hid hl; have HN := hid hN; have Hr := hid hr
  have T3 := T.cc; have T4 := T.uu
  rw [hN] at T3; rw [hr] at T4
  obtain ⟨ac, cc, rfl, -, -, -, K3⟩ := own_slice T3
  obtain ⟨au, cu, rfl, -, -, -, -⟩ := own_slice T4
  have HK3 := hid K3
  obtain ⟨b0, b1, b2, b3, b4, b5⟩ := T.at6
  clear T T3 T4 K3 hl hN hr
  go_enter Tryz.func80, Tryz.ntmps80
  go_wp2_with fail
  go_loopw [10] (fun iv' wr => ∃ (j : Nat) (D : List (List Int)) (ds : List Value), iv' = .int .i64 j ∧ j ≤ N ∧ Hid (Tk w0 wK wr g p R K I D U rv cv (.slice ac N cc) (.slice au r cu) iv ds us) ∧ Hid (D.length = N) ∧ Hid (∀ t, t < N → D.getD t [] = if t < j then padL r (C.getD t []) else C.getD t [])) (fun iv' _ => N - (intOf iv').toNat)
  case atStart => exact ⟨0, C, cs, rfl, Nat.zero_le _, HT, HN, hid (fun t ht => by rw [if_neg (by omega)])⟩
  case round =>
    clear b0 b1 b2 b3 b4 b5
    obtain ⟨j, D, ds, rfl, hj, HD, hDl, hDg⟩ := hrel
    obtain ⟨b0, b1, b2, b3, b4, b5⟩ := HD.out.at6
    by_cases hlt : j < N
    · obtain ⟨gc, rfl, -, hgc, -⟩ := HK3.out (by omega)
      have TC := HD.out.crow j (by rw [hDl.out]; exact hlt)
      have hDj := hDg.out j hlt
      rw [if_neg (Nat.lt_irrefl _)] at hDj
      have hlj := Hl.out j hlt
      rw [hDj] at TC
      obtain ⟨l, el⟩ : ∃ l, C.getD j [] = l := ⟨_, rfl⟩
      rw [el] at TC hlj
      obtain ⟨m, em⟩ : ∃ m, l.length = m := ⟨_, rfl⟩
      rw [em] at TC hlj
      obtain ⟨ta, tc, eD, -, -, -, -⟩ := own_slice TC
      rw [eD] at TC
      have hcc := HD.out.cc
      rw [hDl.out] at hcc
      have q3 := hcc.cellAt j (by omega)
      have f3 := hcc.frozenAt j
      have hdl : j < ds.length := by have := HD.out.lc; have := hDl.out; omega
      rw [List.getElem?_eq_getElem hdl] at q3
      have eD2 : ds[j] = .slice ta m tc := by rw [← eD]; simp [List.getD, hdl]
      have Hq := hid (show ds[j]? = some (.slice ta m tc) by rw [List.getElem?_eq_getElem hdl, eD2])
      rw [eD2] at q3
      obtain ⟨k, ek⟩ : ∃ k, r - m = k := ⟨_, rfl⟩
      have hk1 : (r : Int) - (m : Int) = (k : Int) := by omega
      have hk2 : IntKind.i64.wrap (k : Int) = (k : Int) := IntWalk.i64_in _ (by omega)
      have hpad := hid (show padL r l = l ++ List.replicate k 0 by unfold padL; rw [em, ek])
      have hmr : m + k = r := by omega
      have TC := hid TC; have ED := hid eD; have El := hid el; have Em := hid em
      have hs0 := HD.out.ext.size
      clear el em ek eD eD2 hdl hDj hcc
      have TD := hid (HD.out.ext' ((Ext.refl wr).drew))
      have TC2 := hid (ownsRow_ext TC.out ((Ext.refl wr).drew))
      have hcc2 := hid (by have h := TD.out.cc; rw [hDl.out] at h; exact h)
      go_wp2_with fail
      go_region_law (first
        | (refine step_zeros _ rfl (.tmp 21) (.tmp 30) 24 3 rfl w0.heap.size 22 iu .i64 .i64 Tryz.underlying24 Tryz.underlying3 hiu hu0 hu1 hu2 (.slice ta m tc) m (l.map (Value.int .u64)) (by simp [Act.eval, Act.put]) TC2.out k (by simp [Act.eval, Act.put]) (by omega) (by simp; omega) ?_
           intro v6 w6 hown6 hgrow6 hat6
           have c6 := hcc2.out.kept hgrow6 (ownsRow_apart hcc2.out TC2.out (by decide))
           have o6 := (c6.cellAt j (by omega)).trans Hq.out
           have f6 := c6.frozenAt j
           obtain ⟨e0, e1, e2, e3, e4, e5⟩ := (TD.out.box' TC2.out (by decide) hgrow6).at6
           have Hown6 := hid hown6
           obtain ⟨a6, c7, rfl, -, -, -, -⟩ := own_slice hown6))
      all_goals
        have hlp : (padL r l).length = m + k := by rw [hpad.out, List.length_append, List.length_replicate, Em.out]
        have hT := hid (TD.out.setC hDl.out hlt (l := padL r l) (by rw [hlp, hpad.out, List.map_append, List.map_replicate]; exact Hown6.out) (by rw [ED.out]; exact hgrow6) (by rw [ED.out]; exact hat6))
        rw [hmr] at hT
        go_wp2_with fail
        go_roundw
        case rel =>
          refine ⟨j + 1, D.set j (padL r l), _, by go_num, by omega, hT, hid (by rw [List.length_set]; exact hDl.out), hid (fun t ht => ?_)⟩
          rw [getD_set D j t (padL r l) [] (by rw [hDl.out]; exact hlt)]
          by_cases e : j = t
          · subst e
            rw [if_pos rfl, if_pos (by omega), El.out]
          · rw [if_neg e, hDg.out t ht]
            by_cases e2 : t < j
            · rw [if_pos e2, if_pos (by omega)]
            · rw [if_neg e2, if_neg (by omega)]
        case measure => simp [intOf]; omega
    · obtain rfl : N = j := by omega
      have e : D = C.map (padL r) := List.ext_getElem (by rw [List.length_map, hDl.out, HN.out]) fun t h1 h2 => by
        rw [List.length_map] at h2
        have h3 := hDg.out t (by rw [← hDl.out]; exact h1)
        rw [if_pos (by rw [← hDl.out]; exact h1)] at h3
        simp only [List.getD, List.getElem?_eq_getElem h1, List.getElem?_eq_getElem h2, Option.getD_some] at h3
        rw [h3, List.getElem_map]
      go_wp2_with fail
      go_end0
      exact ⟨rfl, ds, by rw [← e]; exact HD.out⟩
end Go.Proofs.YthomeenmcajmdaaGreatDoor
