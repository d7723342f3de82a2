/- The first look of layer 11's laws: it answers true. -/
import Derived.Test.YticabjdcegimcaaFr8
namespace Go.Proofs.Yticabjdcegimcaa
open Go.RowKit Go.Maps

theorem put_yes {f : Frm} (h : mayF f = true) : putZ f = putL f ∧ putE f = 0 := by unfold putZ putE; rw [h]; exact ⟨rfl, rfl⟩
theorem put_no {f : Frm} (h : mayF f = false) : putZ f = [] ∧ putE f = 1 := by unfold putZ putE; rw [h]; exact ⟨rfl, rfl⟩
/-- what is put is read as it was, whatever stands behind -/
theorem nx_put {f : Frm} (h : mayF f = true) (ok : f.Ok) (r : List Int) : nextE (putL f ++ r) = 0 ∧ nxF (putL f ++ r) = f ∧ nxN (putL f ++ r) = ((12 + 8 * f.body.length : Nat) : Int) := by
  obtain ⟨h1, h2, h3⟩ := next_put h ok r
  obtain ⟨e1, e2⟩ := nx_yes h1
  exact ⟨h1, e1.trans h2, by rw [e2, h3]; omega⟩
theorem rd_put {f : Frm} (h : mayF f = true) (ok : f.Ok) : rdE (putL f) = 0 ∧ rdF (putL f) = f := by
  obtain ⟨h1, h2, h3⟩ := nx_put h ok []
  rw [List.append_nil] at h1 h2 h3
  have hl := putL_len f
  unfold rdE rdF
  rw [if_neg (by omega), if_neg (by omega)]
  exact ⟨h1, h2⟩
theorem rd_more {f : Frm} (h : mayF f = true) (ok : f.Ok) {r : List Int} (hr : 0 < r.length) : rdE (putL f ++ r) = 2 ∧ rdF (putL f ++ r) = Frm.zero := by
  obtain ⟨h1, h2, h3⟩ := nx_put h ok r
  have hl := putL_len f
  have hl2 : (putL f ++ r).length = 12 + 8 * f.body.length + r.length := by rw [List.length_append, hl]
  unfold rdE rdF
  rw [if_pos ⟨h1, by rw [h3, hl2]; omega⟩, if_pos ⟨h1, by rw [h3, hl2]; omega⟩]
  exact ⟨rfl, rfl⟩
def awF : Frm := ⟨2, 3, 258, [7, 9223372036854775808]⟩
theorem awM : mayF awF = true := by decide
theorem awO : awF.Ok := ⟨by decide, by decide⟩
theorem awS : sumZ [1, 2, 3] = 14 := by decide
theorem awB : Byt [1, 2, 3] := by unfold Byt; decide
theorem awP : (putL awF).length = 28 := putL_len awF
set_option maxRecDepth 100000 in
set_option maxHeartbeats 2000000 in
theorem awake11 (w : World) : Calls Try.prog 7 #[] w (Ret (.bool true) w) := by
  obtain ⟨i0, hi, hz0, hz1, hz2⟩ := info_parts info_u8p
  have C1 := hid fun (W : World) (v : Value) (hv : Ints .u64 W v awF.body) => frPut awF v W awO hv
  unfold RetPut at C1
  rw [(put_yes awM).1, (put_yes awM).2, awP] at C1
  obtain ⟨B, eB⟩ : ∃ B, putL awF = B := ⟨_, rfl⟩
  have hb := putL_byt awM
  have hl := awP
  have hr := rd_put awM awO
  have hn := nx_put awM awO [9]
  rw [eB] at C1 hb hl hr hn
  clear eB
  have C2 := hid fun (W : World) (v : Value) (hv : Ints .u8 W v B) => frRead v B W hv hb (by omega)
  unfold RetRd at C2
  rw [hr.1, hr.2] at C2
  have hb9 : Byt (B ++ [9]) := hb.append (by unfold Byt; decide)
  have hl9 : (B ++ [9]).length = 29 := by rw [List.length_append, hl]; rfl
  have C3 := hid fun (W : World) (v : Value) (hv : Ints .u8 W v (B ++ [9])) => frNext v _ W hv hb9 (by omega)
  unfold RetNx at C3
  rw [hn.1, hn.2.1, hn.2.2] at C3
  have CS := hid fun (W : World) (v u : Value) (hv : Ints .u64 W v awF.body) (hu : Ints .u64 W u awF.body) => r11Same awF awF v u W hv hu
  rw [decide_eq_true (rfl : awF = awF)] at CS
  have CM := hid fun (W : World) (v : Value) (hv : Ints .u64 W v awF.body) => frMay awF v W hv
  rw [awM] at CM
  have CU := hid fun (W : World) (v : Value) (hv : Ints .u8 W v [1, 2, 3]) => frSum v _ W hv awB
  rw [awS] at CU
  have HL := hid hl
  have C1 : Hid (∀ (W : World) (v : Value), Ints .u64 W v awF.body → Calls Try.prog 8 #[.agg #[.int .i64 2, .int .i64 3, .int .u32 258, v]] W fun e w' => ∃ u, e = .returned (.tuple #[u, .int .i64 0]) ∧ w'.ownsRow W.heap.size 5 1 u 28 (B.map (Value.int .u8)) ∧ Ext W w') := C1
  have C2 : Hid (∀ (W : World) (v : Value), Ints .u8 W v B → Calls Try.prog 12 #[v] W fun e w' => ∃ u, e = .returned (.tuple #[.agg #[.int .i64 2, .int .i64 3, .int .u32 258, u], .int .i64 0]) ∧ w'.ownsRow W.heap.size 48 1 u 2 (awF.body.map (Value.int .u64)) ∧ Ext W w') := C2
  have C3 : Hid (∀ (W : World) (v : Value), Ints .u8 W v (B ++ [9]) → Calls Try.prog 10 #[v] W fun e w' => ∃ u, e = .returned (.tuple #[.agg #[.int .i64 2, .int .i64 3, .int .u32 258, u], .int .i64 28, .int .i64 0]) ∧ w'.ownsRow W.heap.size 48 1 u 2 (awF.body.map (Value.int .u64)) ∧ Ext W w') := C3
  have CS : Hid (∀ (W : World) (v u : Value), Ints .u64 W v awF.body → Ints .u64 W u awF.body → Calls Try.prog 17 #[.agg #[.int .i64 2, .int .i64 3, .int .u32 258, v], .agg #[.int .i64 2, .int .i64 3, .int .u32 258, u]] W (Ret (.bool true) W)) := CS
  have CM : Hid (∀ (W : World) (v : Value), Ints .u64 W v awF.body → Calls Try.prog 13 #[.agg #[.int .i64 2, .int .i64 3, .int .u32 258, v]] W (Ret (.bool true) W)) := CM
  clear hb hl hr hn hb9 hl9
  have z1 := (Ext.refl w).alloc (.cells #[.int .u64 7, .int .u64 9223372036854775808] 48)
  have IF := hid (Ints.lit (k := .u64) (w := w) (t := 48) [7, 9223372036854775808] (by decide) rfl)
  go_enter Try.func7, Try.ntmps7
  go_wp2_with fail
  refine (C1.out _ _ (IF.out.ext ((Ext.refl _).alloc _))).mono ?_
  rintro _ w1 ⟨v1, rfl, o1, x1⟩
  obtain ⟨a1, c1, e1, -, -⟩ := own_nums o1
  subst e1
  have O1 := hid o1
  have HF := hid ((Blk.new (w.alloc (.cells #[.int .u64 7, .int .u64 9223372036854775808] 48)) 25 #[.int .i64 2, .int .i64 3, .int .u32 258, .slice (some ⟨w.heap.size, 0, none⟩) 2 2]).ext x1)
  rw [alloc_size] at HF
  have IF1 := hid (IF.out.ext (((Ext.refl _).alloc (.cells #[.int .i64 2, .int .i64 3, .int .u32 258, .slice (some ⟨w.heap.size, 0, none⟩) 2 2] 25)).trans x1))
  have z2 : Ext w w1 := (z1.alloc _).trans x1
  clear o1 x1 z1 IF
  go_wp2_with fail
  refine (C2.out _ _ (own_read O1.out)).mono ?_
  rintro _ w2 ⟨v2, rfl, o2, x2⟩
  obtain ⟨a2, c2, e2, -, -⟩ := own_nums o2
  subst e2
  obtain ⟨w3, hw3⟩ : ∃ w3, w2.alloc (.cells #[.int .i64 2, .int .i64 3, .int .u32 258, .slice a2 2 c2] 25) = w3 := ⟨_, rfl⟩
  have x3 : Ext w2 w3 := hw3 ▸ (Ext.refl w2).alloc _
  have HG := hid (show Blk w3 w2.heap.size 25 #[.int .i64 2, .int .i64 3, .int .u32 258, .slice a2 2 c2] from hw3 ▸ Blk.new w2 _ _)
  have O2 := hid (ownsRow_ext o2 x3)
  have O1' := hid (ownsRow_ext O1.out (x2.trans x3))
  have x13 := x2.trans x3
  have hO0 := hid (World.ownsRow_lit (base := w3.heap.size) (e := 5) (size := 1) w3 #[] 0 (Nat.le_refl _) (by simp [maxLen]) rfl)
  clear o2
  go_wp2_with (first
    | (at_builtin; refine wpList_append_k .u8 rfl _ _ 26 rfl w3.heap.size 5 i0 (.int .u8 0) 1 Try.underlying26 hi hz0 hz1 hz2 rfl _ 0 _ rfl hO0.out _ B rfl (own_read (O1'.out.alloc _)) (by rw [HL.out]; simp only [maxLen]; omega) (by rw [HL.out]; omega) (by simp) ?_
       intro v4 w4 hown4 hgrow4
       have x4 : Ext w3 w4 := ((Ext.refl w3).alloc _).grown hgrow4 (fun k e => by cases e; exact Nat.le_refl _)
       have O4 := hid (show w4.ownsRow w3.heap.size 5 1 v4 28 (B.map (Value.int .u8)) from by rw [HL.out, Nat.zero_add] at hown4; exact hown4)
       obtain ⟨a4, c4, e4, -, -⟩ := own_nums O4.out
       subst e4
       have hs4 := x4.size
       clear hown4 hgrow4)
    | (at_builtin; refine wpList_append_own _ rfl _ _ 26 rfl w3.heap.size 5 i0 (.int .u8 0) 1 1 Try.underlying26 hi hz0 hz1 hz2 rfl (by decide) _ _ _ rfl (O4.out.alloc _) ⟨w4.heap.size, 0, none⟩ 1 1 [.int .u8 9] rfl rfl (cells_new _ _ _ (by simp)) (by simp [Value.oneCell']) (by simp only [maxLen]; omega) (by omega) (by simp; omega) ?_
       intro v5 w5 hown5 hgrow5 _
       have x5 : Ext w3 w5 := (x4.alloc _).grown hgrow5 (fun k e => (O4.out.lt k e).1)
       have O5 := hid (show w5.ownsRow w3.heap.size 5 1 v5 29 ((B ++ [9]).map (Value.int .u8)) from by rw [← bytes_map]; exact hown5)
       clear hown5 hgrow5)
    | fail)
  clear hw3
  refine (C3.out _ _ (own_read O5.out)).mono ?_
  rintro _ w6 ⟨v6, rfl, o6, x6⟩
  obtain ⟨a6, c6, e6, -, -⟩ := own_nums o6
  subst e6
  obtain ⟨w7, hw7⟩ : ∃ w7, w6.alloc (.cells #[.int .i64 2, .int .i64 3, .int .u32 258, .slice a6 2 c6] 25) = w7 := ⟨_, rfl⟩
  have x7 : Ext w6 w7 := hw7 ▸ (Ext.refl w6).alloc _
  have HK := hid (show Blk w7 w6.heap.size 25 #[.int .i64 2, .int .i64 3, .int .u32 258, .slice a6 2 c6] from hw7 ▸ Blk.new w6 _ _)
  have x37 := x5.trans (x6.trans x7)
  have IK7 := hid (own_read (ownsRow_ext o6 x7))
  have IG7 := hid (own_read (ownsRow_ext O2.out x37))
  have IF7 := hid (IF1.out.ext (x13.trans x37))
  have HF7 := hid (HF.out.ext (x13.trans x37))
  have HG7 := hid (HG.out.ext x37)
  have z7 := z2.trans (x13.trans x37)
  obtain ⟨f0, f1, f2, f3⟩ := HF7.out.at4
  obtain ⟨g0, g1, g2, g3⟩ := HG7.out.at4
  clear O1 O2 O1' O4 O5 o6 x3 x4 x5 x6 hO0 IF1 HF HG hs4
  go_wp2_with fail
  clear hw7 f0 f1 f2 f3 g0 g1 g2 g3
  refine (CS.out _ _ _ IF7.out IG7.out).mono ?_
  rintro _ w8 ⟨rfl, x8⟩
  obtain ⟨f0, f1, f2, f3⟩ := (HF7.out.ext x8).at4
  obtain ⟨g0, g1, g2, g3⟩ := (HK.out.ext x8).at4
  go_wp2_with fail
  clear f0 f1 f2 f3 g0 g1 g2 g3
  refine (CS.out _ _ _ (IF7.out.ext x8) (IK7.out.ext x8)).mono ?_
  rintro _ w9 ⟨rfl, x9⟩
  obtain ⟨f0, f1, f2, f3⟩ := (HF7.out.ext (x8.trans x9)).at4
  go_wp2_with fail
  clear f0 f1 f2 f3
  refine (CM.out _ _ (IF7.out.ext (x8.trans x9))).mono ?_
  rintro _ w10 ⟨rfl, x10⟩
  go_wp2_with fail
  refine (CU.out _ _ (Ints.lit (k := .u8) (w := w10) (t := 5) [1, 2, 3] (by decide) rfl)).mono ?_
  rintro _ _ ⟨rfl, rfl⟩
  go_wp2_with fail
  go_ret
  exact ⟨rfl, z7.trans (x8.trans (x9.trans (x10.alloc _)))⟩
end Go.Proofs.Yticabjdcegimcaa
