/- Package frame, and the document's own answers: Put. -/
import Derived.Test.YticabjdcegimcaaFr2
namespace Go.Proofs.Yticabjdcegimcaa
open Go.RowKit Go.Maps

theorem own_made0 (w : World) (t : TypeId) (z : Value) (c : Nat) (h2 : c ≤ 35184372088832) :
    (w.alloc (.cells (madeCells #[z] c) t)).ownsRow w.heap.size t 1 (.slice (some ⟨w.heap.size, 0, none⟩) 0 c) 0 [] := by
  have hs : (madeCells #[z] c).size = c * 1 := by simp [madeCells]
  exact ⟨by simp, .inr ⟨w.heap.size, c, madeCells #[z] c, rfl, Nat.le_refl _, heap_alloc_new w _, Nat.zero_le _, by unfold maxLen; omega, hs, by simp⟩⟩
theorem bodyL_take {l : List Int} {j : Nat} (h : j < l.length) : bodyL (l.take (j + 1)) = bodyL (l.take j) ++ byt (l.getD j 0) 8 := by
  rw [take_one h, bodyL_app]
  show _ ++ (byt _ 8 ++ []) = _
  rw [List.append_nil]
theorem Blk.at4 {w : World} {g : Nat} {t : TypeId} {a b c d : Value} (h : Blk w g t #[a, b, c, d]) : w.cell? ⟨g, 0, none⟩ = some a ∧ w.cell? ⟨g, 1, none⟩ = some b ∧ w.cell? ⟨g, 2, none⟩ = some c ∧ w.cell? ⟨g, 3, none⟩ = some d :=
  ⟨h.cell 0, h.cell 1, h.cell 2, h.cell 3⟩
/-- the bytes of what is put, if it may be -/
def putZ (f : Frm) : List Int := if mayF f then putL f else []
def putE (f : Frm) : Int := if mayF f then 0 else 1
theorem sumZ_small {l : List Int} (h : l.length ≤ 131072) : sumZ l = sumL l := by unfold sumZ; rw [if_pos h]
/-- what Put answers -/
def RetPut (f : Frm) (w : World) (e : Ending) (w' : World) : Prop := ∃ v, e = .returned (.tuple #[v, .int .i64 (putE f)]) ∧ w'.ownsRow w.heap.size 5 1 v (putZ f).length ((putZ f).map (Value.int .u8)) ∧ Ext w w'
theorem Frm.Ok.u64 {f : Frm} (h : f.Ok) : U64s f.body := fun x hx => by have := h.2 x hx; omega

set_option maxRecDepth 100000 in
set_option maxHeartbeats 2000000 in
theorem frPut (f : Frm) (v : Value) (w : World) (hf : f.Ok) (hv : Ints .u64 w v f.body) : Calls Try.prog 8 #[frmV f v] w (RetPut f w) := by
  have CM := hid fun (W : World) (hW : Ext w W) => frMay f v W (hv.ext hW)
  unfold RetPut putE putZ
  cases hM : mayF f with
  | false =>
    rw [hM] at CM
    obtain ⟨a, cap, rfl, k1, k2⟩ := hv.shape
    clear hv hM
    unfold frmV at CM ⊢
    go_enter Try.func8, Try.ntmps8
    go_wp2_with fail
    refine (CM.out _ (by repeat (first | exact Ext.refl _ | assumption | refine Ext.drew ?_ | refine Ext.drewN ?_ _ | refine Ext.alloc ?_ _ | refine Ext.trans ?_ (by assumption)))).mono ?_
    rintro _ w1 ⟨rfl, x1⟩
    go_wp2_with fail
    refine bodyPost_ret (results_tmp2 rfl _ _ _) rfl ?_
    exact ⟨_, rfl, World.ownsRow_nil _ _ _ _, Ext.trans (by repeat (first | exact Ext.refl _ | assumption | refine Ext.drew ?_ | refine Ext.drewN ?_ _ | refine Ext.alloc ?_ _ | refine Ext.trans ?_ (by assumption))) x1⟩
  | true =>
    rw [hM] at CM
    have hm := mayF_iff.1 hM
    obtain ⟨i0, hi, hz0, hz1, hz2⟩ := info_parts info_u8p
    have HX := hid hf.u64
    have hn := hf.1
    have HIB := hid (innL_byt hM)
    have hil := innL_len f
    obtain ⟨kd, rd, nm, l⟩ := f
    obtain ⟨N, hN⟩ : ∃ N, l.length = N := ⟨_, rfl⟩
    have hn : 0 ≤ nm ∧ nm < 4294967296 := hn
    have hm : 0 < kd ∧ kd < 5 ∧ 0 ≤ rd ∧ rd < 256 ∧ l.length ≤ 9000 := hm
    have hil : (innL ⟨kd, rd, nm, l⟩).length = 9 + 8 * l.length := hil
    have HXL : Hid (U64s l) := HX
    obtain ⟨a, cap, rfl, k1, k2⟩ := hv.shape
    have k1 : l.length ≤ cap := k1
    have HV : Hid (Ints .u64 w (.slice a l.length cap) l) := hid hv
    have eI : innL ⟨kd, rd, nm, l⟩ = [163, kd, rd] ++ byt nm 4 ++ byt (N : Int) 2 ++ bodyL l := by unfold innL headL; rw [← hN]
    have eP : putL ⟨kd, rd, nm, l⟩ = innL ⟨kd, rd, nm, l⟩ ++ byt (sumL (innL ⟨kd, rd, nm, l⟩)) 3 := rfl
    have hb := hid (Blk.new w 25 #[.int .i64 kd, .int .i64 rd, .int .u32 nm, .slice a l.length cap])
    have hsr := sumL_range (innL ⟨kd, rd, nm, l⟩)
    have CM : Hid (∀ W, Ext w W → Calls Try.prog 13 #[.agg #[.int .i64 kd, .int .i64 rd, .int .u32 nm, .slice a l.length cap]] W (Ret (.bool true) W)) := CM
    show Calls _ _ #[.agg #[.int .i64 kd, .int .i64 rd, .int .u32 nm, .slice a l.length cap]] w _
    rw [if_pos rfl, if_pos rfl, eP]
    obtain ⟨inn, ei⟩ : ∃ inn, innL ⟨kd, rd, nm, l⟩ = inn := ⟨_, rfl⟩
    obtain ⟨sm, es⟩ : ∃ sm, sumL inn = sm := ⟨_, rfl⟩
    rw [ei] at eI hil HIB hsr ⊢
    rw [es] at hsr ⊢
    rw [hN] at HV k1 CM hb hm hil ⊢
    have HN := hid hN; have EI := hid eI; have ES := hid es; have HIL := hid hil
    have hmk : ∀ W, (Instr.makeSlice 26 (.int .i64 0) (.int .i64 (12 + 8 * (N : Int)))).run Try.prog W = .ok (.slice (some ⟨W.heap.size, 0, none⟩) 0 (12 + 8 * N)) (W.alloc (.cells (madeCells #[Value.int .u8 0] (12 + 8 * N)) 5)) := fun W => by
      have := make_ints (P := Try.prog) 26 5 .u8 1 (by omega) (by kernel_rfl) (by kernel_rfl) 0 (12 + 8 * N) (Nat.zero_le _) (by omega) W
      rw [← this]
      congr 2
    have e1 : IntKind.u8.wrap kd = kd := by simp [IntKind.wrap, IntKind.bits, IntKind.signed]; omega
    have e2 : IntKind.u8.wrap rd = rd := by simp [IntKind.wrap, IntKind.bits, IntKind.signed]; omega
    clear hv hM HX hf hN eI ei es eP hil
    go_enter Try.func8, Try.ntmps8
    go_wp2_with fail
    refine (CM.out _ (by repeat (first | exact Ext.refl _ | assumption | refine Ext.drew ?_ | refine Ext.drewN ?_ _ | refine Ext.alloc ?_ _ | refine Ext.trans ?_ (by assumption)))).mono ?_
    rintro _ w1 ⟨rfl, x1⟩
    have hs1 := x1.size
    have hb1 := hid (hb.out.ext x1)
    clear hb
    obtain ⟨-, -, -, c3⟩ := hb1.out.at4
    have x2 : Ext w w1 := Ext.trans (by repeat (first | exact Ext.refl _ | assumption | refine Ext.drew ?_ | refine Ext.drewN ?_ _ | refine Ext.alloc ?_ _ | refine Ext.trans ?_ (by assumption))) x1
    clear x1
    have hO0 := hid (own_made0 w1 5 (.int .u8 0) (12 + 8 * N) (by omega))
    have y0 := (Ext.refl w1).alloc (.cells (madeCells #[Value.int .u8 0] (12 + 8 * N)) 5)
    obtain ⟨d0, d1, d2, d3⟩ := (hb1.out.ext y0).at4
    go_wp2_with (first
      | (go_at_call 18; refine (frWhole N (by omega) _).mono ?_; rintro _ _ ⟨rfl, rfl⟩)
      | (at_builtin; refine wpList_append_own _ rfl _ _ 26 rfl w1.heap.size 5 i0 (.int .u8 0) 1 1 Try.underlying26 hi hz0 hz1 hz2 rfl (by decide) _ _ _ rfl (hO0.out.alloc _) ⟨w1.heap.size + 1, 0, none⟩ 3 3 [.int .u8 163, .int .u8 kd, .int .u8 rd] rfl rfl (cells_new _ _ _ (by simp)) (by simp [Value.oneCell']) (by simp only [maxLen]; omega) (by omega) (by simp; omega) ?_
         intro v2 w2 hown2 hgrow2 _
         have x3 : Ext w1 w2 := (y0.alloc _).grown hgrow2 (fun k e => by cases e; exact Nat.le_refl _)
         obtain ⟨d0, d1, d2, d3⟩ := (hb1.out.ext x3).at4
         have O2 := hid hown2
         clear hown2 hgrow2)
      | fail)
    clear y0 hmk hO0 d0 d1 d2 d3 c3
    have hs2 := x3.size
    refine (frPut_ v2 nm 4 w1.heap.size [163, kd, rd] w2 O2.out hs2 (by omega) (by omega) (by simp)).mono ?_
    rintro _ w3 ⟨v3, rfl, o3, b3⟩
    have x4 : Ext w1 w3 := Below.trans x3 b3
    have O3 := hid o3
    obtain ⟨d0, d1, d2, d3⟩ := (hb1.out.ext x4).at4
    clear o3 b3 x3 O2
    go_wp2_with fail
    clear d0 d1 d2 d3
    have hs3 := x4.size
    refine (frPut_ v3 N 2 w1.heap.size _ w3 O3.out hs3 (by omega) (by omega) (by simp [byt_len])).mono ?_
    rintro _ w4 ⟨v4, rfl, o4, b4⟩
    have x5 : Ext w1 w4 := Below.trans x4 b4
    have O4 := hid o4
    obtain ⟨d0, d1, d2, d3⟩ := (hb1.out.ext x5).at4
    clear o4 b4 x4 O3
    obtain ⟨hd, eh⟩ : ∃ hd, [163, kd, rd] ++ byt nm 4 ++ byt (N : Int) 2 = hd := ⟨_, rfl⟩
    have hhl : hd.length = 9 := by rw [← eh]; simp [byt_len]
    have HHL := hid hhl
    rw [eh] at O4
    rw [eh] at EI
    clear eh hhl
    go_wp2_with fail
    clear d0 d1 d2 d3
    go_loopw [4, 6, 38] (fun b _ i wr => ∃ (j : Nat) (r : List Int), i = .int .i64 j ∧ j ≤ N ∧ Hid (r = hd ++ bodyL (l.take j)) ∧ Hid (r.length = 9 + 8 * j) ∧ Hid (wr.ownsRow w1.heap.size 5 1 b r.length (r.map (Value.int .u8))) ∧ Hid (Ext w1 wr)) (fun _ _ i _ => N - (intOf i).toNat)
    case atStart => exact ⟨0, hd, rfl, Nat.zero_le _, hid (by simp [bodyL]), HHL, O4, hid x5⟩
    case round =>
      obtain ⟨j, r, rfl, hj, hr, hrl, ho, hx⟩ := hrel
      rename World => wr
      have hsr2 := hx.out.size
      by_cases hlt : j < N
      · obtain ⟨b, off, rfl, -, hbb, hcell⟩ := HV.out.cell (by rw [HN.out]; omega)
        have g := hcell j (by rw [HN.out]; exact hlt) wr (Ext.trans x2 hx.out)
        have hxg := U64s.get HXL.out (show j < l.length by rw [HN.out]; exact hlt)
        have hbt := bodyL_take (l := l) (j := j) (by rw [HN.out]; exact hlt)
        obtain ⟨x, ex⟩ : ∃ x, l.getD j 0 = x := ⟨_, rfl⟩
        rw [ex] at g hxg hbt
        have HBT := hid hbt
        have CP := hid fun (b : Value) (ho : wr.ownsRow w1.heap.size 5 1 b r.length (r.map (Value.int .u8))) => frPut_ b x 8 w1.heap.size r wr ho hsr2 hxg (by omega) (by rw [hrl.out]; omega)
        clear hcell ex hbt
        go_wp2_with fail
        refine (CP.out _ ho.out).mono ?_
        rintro _ w6 ⟨v6, rfl, o6, b6⟩
        have O6 := hid o6
        have x6 : Ext w1 w6 := Below.trans hx.out b6
        have X6 := hid x6
        clear o6 b6 x6
        go_wp2_with fail
        go_roundw
        case rel => exact ⟨j + 1, r ++ byt x 8, by go_num, by omega, hid (by rw [HBT.out, hr.out, List.append_assoc]), hid (by rw [List.length_append, hrl.out, byt_len]; omega), O6, X6⟩
        case measure => simp [intOf]; omega
      · obtain rfl : j = N := by omega
        have hri : r = inn := by rw [hr.out, EI.out, List.take_of_length_le (by rw [HN.out]; exact Nat.le_refl _)]
        subst hri
        have CS := hid fun (b : Value) (ho : wr.ownsRow w1.heap.size 5 1 b r.length (r.map (Value.int .u8))) => frSum b r wr (own_read ho) HIB.out
        rw [sumZ_small (by rw [hrl.out]; omega), ES.out] at CS
        have CP := hid fun (b : Value) (ho : wr.ownsRow w1.heap.size 5 1 b r.length (r.map (Value.int .u8))) => frPut_ b sm 3 w1.heap.size r wr ho hsr2 (by omega) (by omega) (by rw [hrl.out]; omega)
        go_wp2_with fail
        refine (CS.out _ ho.out).mono ?_
        rintro _ _ ⟨rfl, rfl⟩
        go_wp2_with fail
        refine (CP.out _ ho.out).mono ?_
        rintro _ w7 ⟨v7, rfl, o7, b7⟩
        have O7 := hid o7
        have x7 : Ext w1 w7 := Below.trans hx.out b7
        clear o7 b7
        go_wp2_with fail
        refine bodyPost_ret (results_tmp2 rfl _ _ _) rfl ?_
        exact ⟨v7, rfl, ownsRow_low O7.out x2.size, x2.trans x7⟩
end Go.Proofs.Yticabjdcegimcaa
