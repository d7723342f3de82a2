/- The document's own answer to Put. -/
import Derived.Test.YticabjdcegimcaaFr3
namespace Go.Proofs.Yticabjdcegimcaa
open Go.RowKit Go.Maps

theorem own_more {w : World} {base : Nat} {e : TypeId} {v : Value} {r s : List Int} (h : w.ownsRow base e 1 v (r.length + s.length) (r.map (Value.int .u8) ++ s.map (Value.int .u8))) : w.ownsRow base e 1 v (r ++ s).length ((r ++ s).map (Value.int .u8)) := by
  rw [List.length_append, List.map_append]; exact h
set_option maxRecDepth 100000 in
set_option maxHeartbeats 2000000 in
theorem r11Put (f : Frm) (v : Value) (w : World) (hf : f.Ok) (hv : Ints .u64 w v f.body) : Calls Try.prog 9 #[frmV f v] w (RetPut f w) := by
  have CM := hid fun (W : World) (hW : Ext w W) => r11May f v W (hv.ext hW)
  unfold RetPut putE putZ
  cases hM : mayF f with
  | false =>
    rw [hM] at CM
    obtain ⟨a, cap, rfl, k1, k2⟩ := hv.shape
    clear hv hM
    unfold frmV at CM ⊢
    go_enter Try.func9, Try.ntmps9
    go_wp2_with fail
    refine (CM.out _ (by repeat (first | exact Ext.refl _ | assumption | refine Ext.drew ?_ | refine Ext.drewN ?_ _ | refine Ext.alloc ?_ _ | refine Ext.trans ?_ (by assumption)))).mono ?_
    rintro _ w1 ⟨rfl, x1⟩
    go_wp2_with fail
    refine bodyPost_ret (results_tmp2 rfl _ _ _) rfl ?_
    exact ⟨_, rfl, World.ownsRow_nil _ _ _ _, Ext.trans (by repeat (first | exact Ext.refl _ | assumption | refine Ext.drew ?_ | refine Ext.drewN ?_ _ | refine Ext.alloc ?_ _ | refine Ext.trans ?_ (by assumption))) x1⟩
  | true =>
    rw [hM] at CM
    have hm := mayF_iff.1 hM
    obtain ⟨i0, hi, hz0, hz1, hz2⟩ := info_parts info_u8p
    have HX := hid hf.u64
    have hn := hf.1
    have HIB := hid (innL_byt hM)
    have hil := innL_len f
    obtain ⟨kd, rd, nm, l⟩ := f
    obtain ⟨N, hN⟩ : ∃ N, l.length = N := ⟨_, rfl⟩
    have hn : 0 ≤ nm ∧ nm < 4294967296 := hn
    have hm : 0 < kd ∧ kd < 5 ∧ 0 ≤ rd ∧ rd < 256 ∧ l.length ≤ 9000 := hm
    have hil : (innL ⟨kd, rd, nm, l⟩).length = 9 + 8 * l.length := hil
    have HXL : Hid (U64s l) := HX
    obtain ⟨a, cap, rfl, k1, k2⟩ := hv.shape
    have k1 : l.length ≤ cap := k1
    have HV : Hid (Ints .u64 w (.slice a l.length cap) l) := hid hv
    have eI : innL ⟨kd, rd, nm, l⟩ = [163, kd, rd] ++ byt nm 4 ++ byt (N : Int) 2 ++ bodyL l := by unfold innL headL; rw [← hN]
    have eP : putL ⟨kd, rd, nm, l⟩ = innL ⟨kd, rd, nm, l⟩ ++ byt (sumL (innL ⟨kd, rd, nm, l⟩)) 3 := rfl
    have hb := hid (Blk.new w 25 #[.int .i64 kd, .int .i64 rd, .int .u32 nm, .slice a l.length cap])
    have hsr := sumL_range (innL ⟨kd, rd, nm, l⟩)
    have CM : Hid (∀ W, Ext w W → Calls Try.prog 14 #[.agg #[.int .i64 kd, .int .i64 rd, .int .u32 nm, .slice a l.length cap]] W (Ret (.bool true) W)) := CM
    show Calls _ _ #[.agg #[.int .i64 kd, .int .i64 rd, .int .u32 nm, .slice a l.length cap]] w _
    rw [if_pos rfl, if_pos rfl, eP]
    obtain ⟨inn, ei⟩ : ∃ inn, innL ⟨kd, rd, nm, l⟩ = inn := ⟨_, rfl⟩
    obtain ⟨sm, es⟩ : ∃ sm, sumL inn = sm := ⟨_, rfl⟩
    rw [ei] at eI hil HIB hsr ⊢
    rw [es] at hsr ⊢
    rw [hN] at HV k1 CM hb hm hil ⊢
    have HN := hid hN; have EI := hid eI; have ES := hid es; have HIL := hid hil
    have e1 : IntKind.u8.wrap kd = kd := by simp [IntKind.wrap, IntKind.bits, IntKind.signed]; omega
    have e2 : IntKind.u8.wrap rd = rd := by simp [IntKind.wrap, IntKind.bits, IntKind.signed]; omega
    clear hv hM HX hf hN eI ei es eP hil
    go_enter Try.func9, Try.ntmps9
    go_wp2_with fail
    refine (CM.out _ (by repeat (first | exact Ext.refl _ | assumption | refine Ext.drew ?_ | refine Ext.drewN ?_ _ | refine Ext.alloc ?_ _ | refine Ext.trans ?_ (by assumption)))).mono ?_
    rintro _ w1 ⟨rfl, x1⟩
    have hb1 := hid (hb.out.ext x1)
    clear hb
    obtain ⟨c0, c1, c2, c3⟩ := hb1.out.at4
    have x2 : Ext w w1 := Ext.trans (by repeat (first | exact Ext.refl _ | assumption | refine Ext.drew ?_ | refine Ext.drewN ?_ _ | refine Ext.alloc ?_ _ | refine Ext.trans ?_ (by assumption))) x1
    have y0 := (Ext.refl w1).alloc (.cells #[.int .u8 163, .int .u8 kd, .int .u8 rd] 5)
    have hO0 := hid (World.ownsRow_lit (base := w1.heap.size) (e := 5) (size := 1) w1 #[.int .u8 163, .int .u8 kd, .int .u8 rd] 3 (Nat.le_refl _) (by simp [maxLen]) rfl)
    obtain ⟨d0, d1, d2, d3⟩ := (hb1.out.ext y0).at4
    have C4 := hid fun (W : World) => r11bytes 4 nm W (by omega) (by omega)
    have C2 := hid fun (W : World) => r11bytes 2 (N : Int) W (by omega) (by omega)
    have C3 := hid fun (W : World) => r11bytes 3 sm W (by omega) (by omega)
    go_wp2_with fail
    refine (C4.out _).mono ?_
    rintro _ w2 ⟨v2, rfl, o2, z2⟩
    have O2 := hid o2
    have x3 : Ext w1 w2 := y0.trans z2
    have hs2 := z2.size
    simp only [World.size_alloc] at hs2
    clear d0 d1 d2 d3 c0 c1 c2 c3 o2
    go_wp2_with (at_builtin; refine wpList_append_k .u8 rfl _ _ 26 rfl w1.heap.size 5 i0 (.int .u8 0) 1 Try.underlying26 hi hz0 hz1 hz2 rfl _ 3 _ rfl (ownsRow_ext hO0.out z2) _ _ rfl (own_read O2.out) (by rw [byt_len]; simp only [maxLen]; omega) (by rw [byt_len]; omega) (by omega) ?_
                 intro v3 w3 hown3 hgrow3
                 have x4 : Ext w1 w3 := x3.grown hgrow3 (fun k e => by cases e; exact Nat.le_refl _)
                 obtain ⟨d0, d1, d2, d3⟩ := (hb1.out.ext x4).at4
                 have O3 := hid (own_more (r := [163, kd, rd]) hown3)
                 clear hown3 hgrow3)
    have hs3 := x4.size
    refine (C2.out _).mono ?_
    rintro _ w4 ⟨v4, rfl, o4, z4⟩
    have O4 := hid o4
    have hs4 := z4.size
    clear d0 d1 d2 d3 o4 x3
    obtain ⟨r3, er3⟩ : ∃ r3, [163, kd, rd] ++ byt nm 4 = r3 := ⟨_, rfl⟩
    have hl3 : r3.length = 7 := by rw [← er3]; simp [byt_len]
    rw [er3] at O3 EI
    rw [hl3] at O3
    have HL3 := hid hl3
    clear er3 hl3
    go_wp2_with (at_builtin; refine wpList_append_k .u8 rfl _ _ 26 rfl w1.heap.size 5 i0 (.int .u8 0) 1 Try.underlying26 hi hz0 hz1 hz2 rfl _ 7 _ rfl (ownsRow_ext O3.out z4) _ _ rfl (own_read O4.out) (by rw [byt_len]; simp only [maxLen]; omega) (by rw [byt_len]; omega) (by omega) ?_
                 intro v5 w5 hown5 hgrow5
                 have x5 : Ext w1 w5 := (x4.trans z4).grown hgrow5 (fun k e => (O3.out.lt k e).1)
                 obtain ⟨d0, d1, d2, d3⟩ := (hb1.out.ext x5).at4
                 have O5 := hid (own_more (w := w5) (base := w1.heap.size) (e := 5) (v := v5) (r := r3) (s := byt (N : Int) 2) (by rw [HL3.out]; exact hown5))
                 clear hown5 hgrow5)
    clear d0 d1 d2 d3
    obtain ⟨hd, eh⟩ : ∃ hd, r3 ++ byt (N : Int) 2 = hd := ⟨_, rfl⟩
    have hhl : hd.length = 9 := by rw [← eh, List.length_append, HL3.out, byt_len]
    have HHL := hid hhl
    rw [eh] at O5 EI
    clear eh hhl
    go_loopw [4, 5] (fun b i wr => ∃ (j : Nat) (r : List Int), i = .int .i64 j ∧ j ≤ N ∧ Hid (r = hd ++ bodyL (l.take j)) ∧ Hid (r.length = 9 + 8 * j) ∧ Hid (wr.ownsRow w1.heap.size 5 1 b r.length (r.map (Value.int .u8))) ∧ Hid (Ext w1 wr)) (fun _ i _ => N - (intOf i).toNat)
    case atStart => exact ⟨0, hd, rfl, Nat.zero_le _, hid (by simp [bodyL]), HHL, O5, hid x5⟩
    case round =>
      obtain ⟨j, r, rfl, hj, hr, hrl, ho, hx⟩ := hrel
      rename World => wr
      have hsr2 := hx.out.size
      obtain ⟨d0, d1, d2, d3⟩ := (hb1.out.ext hx.out).at4
      by_cases hlt : j < N
      · obtain ⟨b, off, rfl, -, hbb, hcell⟩ := HV.out.cell (by rw [HN.out]; omega)
        have g := hcell j (by rw [HN.out]; exact hlt) wr (Ext.trans x2 hx.out)
        have hxg := U64s.get HXL.out (show j < l.length by rw [HN.out]; exact hlt)
        have hbt := bodyL_take (l := l) (j := j) (by rw [HN.out]; exact hlt)
        obtain ⟨x, ex⟩ : ∃ x, l.getD j 0 = x := ⟨_, rfl⟩
        rw [ex] at g hxg hbt
        have HBT := hid hbt
        have C8 := hid fun (W : World) => r11bytes 8 x W hxg (by omega)
        clear hcell ex hbt
        go_wp2_with fail
        refine (C8.out _).mono ?_
        rintro _ w6 ⟨v6, rfl, o6, z6⟩
        have O6 := hid o6
        have hs6 := z6.size
        clear o6 g d0 d1 d2 d3
        go_wp2_with (at_builtin; refine wpList_append_k .u8 rfl _ _ 26 rfl w1.heap.size 5 i0 (.int .u8 0) 1 Try.underlying26 hi hz0 hz1 hz2 rfl _ r.length _ rfl (ownsRow_ext ho.out z6) _ _ rfl (own_read O6.out) (by rw [byt_len, hrl.out]; simp only [maxLen]; omega) (by rw [byt_len, hrl.out]; omega) (by omega) ?_
                     intro v7 w7 hown7 hgrow7
                     have X7 := hid ((hx.out.trans z6).grown hgrow7 (fun k e => (ho.out.lt k e).1))
                     have O7 := hid (own_more hown7)
                     clear hown7 hgrow7)
        go_roundw
        case rel => exact ⟨j + 1, r ++ byt x 8, by go_num, by omega, hid (by rw [HBT.out, hr.out, List.append_assoc]), hid (by rw [List.length_append, hrl.out, byt_len]; omega), O7, X7⟩
        case measure => simp [intOf]; omega
      · obtain rfl : j = N := by omega
        have hri : r = inn := by rw [hr.out, EI.out, List.take_of_length_le (by rw [HN.out]; exact Nat.le_refl _)]
        subst hri
        have CS := hid fun (b : Value) (ho : wr.ownsRow w1.heap.size 5 1 b r.length (r.map (Value.int .u8))) => r11Sum b r wr (own_read ho) HIB.out
        rw [sumZ_small (by rw [hrl.out]; omega), ES.out] at CS
        go_wp2_with fail
        refine (CS.out _ ho.out).mono ?_
        rintro _ _ ⟨rfl, rfl⟩
        clear d0 d1 d2 d3
        go_wp2_with fail
        refine (C3.out _).mono ?_
        rintro _ w6 ⟨v6, rfl, o6, z6⟩
        have O6 := hid o6
        have hs6 := z6.size
        clear o6
        go_wp2_with (at_builtin; refine wpList_append_k .u8 rfl _ _ 26 rfl w1.heap.size 5 i0 (.int .u8 0) 1 Try.underlying26 hi hz0 hz1 hz2 rfl _ r.length _ rfl (ownsRow_ext ho.out z6) _ _ rfl (own_read O6.out) (by rw [byt_len, hrl.out]; simp only [maxLen]; omega) (by rw [byt_len, hrl.out]; omega) (by omega) ?_
                     intro v7 w7 hown7 hgrow7
                     have X7 := hid ((hx.out.trans z6).grown hgrow7 (fun k e => (ho.out.lt k e).1))
                     have O7 := hid (own_more hown7)
                     clear hown7 hgrow7)
        refine bodyPost_ret (results_tmp2 rfl _ _ _) rfl ?_
        exact ⟨v7, rfl, ownsRow_low O7.out x2.size, x2.trans X7.out⟩
end Go.Proofs.Yticabjdcegimcaa
