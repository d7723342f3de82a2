/- Package matrix, thin matrices: SparseRight. -/
import Derived.Test.YtlociefncogjeaaMx9
namespace Go.Proofs.Ytlociefncogjeaa
open Go.RowKit Go.Maps

theorem RetIff.yes {P : Prop} {w : World} {e : Ending} {w' : World} (h : RetIff P w e w') (hp : P) : Ret (.bool true) w e w' := by
  obtain ⟨b, h1, h2, h3⟩ := h
  exact ⟨by rw [h1, h3.2 hp], h2⟩
theorem RetIff.no {P : Prop} {w : World} {e : Ending} {w' : World} (h : RetIff P w e w') (hp : ¬ P) : Ret (.bool false) w e w' := by
  obtain ⟨b, h1, h2, h3⟩ := h
  exact ⟨by rw [h1, Bool.eq_false_iff.2 fun h => hp (h3.1 h)], h2⟩
theorem RetIffL.yes {P : Prop} {w : World} {e : Ending} {w' : World} (h : RetIffL P w e w') (hp : P) : e = .returned (.bool true) ∧ w = w' := by
  obtain ⟨b, h1, h2, h3⟩ := h
  exact ⟨by rw [h1, h2.2 hp], h3⟩
theorem RetIffL.no {P : Prop} {w : World} {e : Ending} {w' : World} (h : RetIffL P w e w') (hp : ¬ P) : e = .returned (.bool false) ∧ w = w' := by
  obtain ⟨b, h1, h2, h3⟩ := h
  exact ⟨by rw [h1, Bool.eq_false_iff.2 fun h => hp (h2.1 h)], h3⟩
theorem RetIff.mk {P : Prop} {w : World} {e : Ending} {w' : World} (b : Bool) (h1 : e = .returned (.bool b)) (h2 : Ext w w') (h3 : b = true ↔ P) : RetIff P w e w' := ⟨b, h1, h2, h3⟩
theorem yes_iff {P : Prop} (h : P) : true = true ↔ P := ⟨fun _ => h, fun _ => rfl⟩

set_option maxRecDepth 100000 in
set_option maxHeartbeats 4000000 in
theorem mxSparse (p r c : Int) (vb vc vv : Value) (bs cs vs : List Int) (w : World) (h0 : 0 ≤ p) (h1 : p ≤ 18446744073709551615) (hb : Ints .i64 w vb bs) (hc : Ints .i64 w vc cs) (hv : Ints .u64 w vv vs) (hx : U64s vs) :
    Calls Try.prog 18 #[.int .u64 p, spV r c vb vc vv] w (RetIff (SpIs p r c bs cs vs) w) := by
  by_cases g1 : sideB r && sideB c
  case neg =>
    have G : Hid (¬ SpIs p r c bs cs vs) := hid fun ⟨m, n, e1, e2, ok⟩ => g1 (by
      have h1 := ok.m1; have h2 := ok.n1
      subst e1 e2
      simp [sideB]; omega)
    have g1' : (sideB r && sideB c) = false := by simpa using g1
    obtain ⟨a1, c1, rfl, k1, k2, k3⟩ := hb
    obtain ⟨a2, c2, rfl, l1, l2, l3⟩ := hc
    obtain ⟨a3, c3, rfl, m1, m2, m3⟩ := hv
    clear k3 l3 m3 hx g1
    have CS := hid fun W : World => (g1' ▸ mxSides r c W : Calls Try.prog 39 #[.int .i64 r, .int .i64 c] W fun e w' => e = .returned (.bool false) ∧ W = w')
    clear g1'
    unfold spV
    go_enter Try.func18, Try.ntmps18
    go_wp2_with (go_at_call 39; refine (CS.out _).mono ?_; rintro _ _ ⟨rfl, rfl⟩)
    go_ret
    exact RetIff.mk false rfl (by repeat (first | exact Ext.refl _ | assumption | refine Ext.drew ?_ | refine Ext.drewN ?_ _ | refine Ext.alloc ?_ _ | refine Ext.trans ?_ (by assumption))) (no_iff G.out)
  have CS := hid fun W : World => (g1 ▸ mxSides r c W : Calls Try.prog 39 #[.int .i64 r, .int .i64 c] W fun e w' => e = .returned (.bool true) ∧ W = w')
  obtain ⟨m, rfl⟩ : ∃ m : Nat, r = m := ⟨r.toNat, by simp [sideB] at g1; omega⟩
  obtain ⟨n, rfl⟩ : ∃ n : Nat, c = n := ⟨c.toNat, by simp [sideB] at g1; omega⟩
  have hm : 1 ≤ m ∧ m ≤ 64 := by simp [sideB] at g1; omega
  have hn : 1 ≤ n ∧ n ≤ 64 := by simp [sideB] at g1; omega
  have inv : ∀ m' n' : Nat, (m : Int) = m' → (n : Int) = n' → SpOk p m' n' bs cs vs → SpOk p m n bs cs vs := fun m' n' e1 e2 ok => by
    obtain rfl : m = m' := by omega
    obtain rfl : n = n' := by omega
    exact ok
  clear g1
  have CB := hid fun (W : World) (hW : Ext w W) => mxBegins m n vb vc vv bs cs vs W (hb.ext hW) (hc.ext hW) (hv.ext hW) (by omega)
  have CH := hid fun (W : World) (hW : Ext w W) => has_any p vv vs W h0 h1 (hv.ext hW) hx
  have CZ := hid fun (W : World) (hW : Ext w W) => contains_any 0 vv vs W (hv.ext hW)
  have CL := hid fun (W : World) (hW : Ext w W) (i lo hi : Nat) => mxLine m n vb vc vv bs cs vs i lo hi w W hW hb hc hv
  obtain ⟨a1, c1, rfl, k1, k2, k3⟩ := hb
  obtain ⟨a2, c2, rfl, l1, l2, l3⟩ := hc
  obtain ⟨a3, c3, rfl, m1, m2, m3⟩ := hv
  have hbox := hid (box5 w 28 (.int .i64 (m : Int)) (.int .i64 (n : Int)) (.slice a1 bs.length c1) (.slice a2 cs.length c2) (.slice a3 vs.length c3))
  have hx0 : Ext w (w.alloc (.cells #[.int .i64 (m : Int), .int .i64 (n : Int), .slice a1 bs.length c1, .slice a2 cs.length c2, .slice a3 vs.length c3] 28)) := (Ext.refl w).alloc _
  clear k3 l3 m3 hx
  unfold spV at CB CL
  unfold spV
  by_cases g2 : BeginOk m bs cs vs
  case neg =>
    have G : Hid (¬ SpIs p m n bs cs vs) := hid fun ⟨m', n', e1, e2, ok⟩ => g2 (inv m' n' e1 e2 ok).begins
    have CB' := hid fun (W : World) (hW : Ext w W) => (CB.out W hW).mono fun _ _ h => h.no g2
    clear g2 inv CB
    go_enter Try.func18, Try.ntmps18
    go_wp2_with (first
      | (go_at_call 39; refine (CS.out _).mono ?_; rintro _ _ ⟨rfl, rfl⟩)
      | (go_at_call 40; refine (CB'.out _ (by repeat (first | exact Ext.refl _ | assumption | refine Ext.drew ?_ | refine Ext.drewN ?_ _ | refine Ext.alloc ?_ _ | refine Ext.trans ?_ (by assumption)))).mono ?_; rintro _ w1 ⟨rfl, x1⟩))
    go_ret
    exact RetIff.mk false rfl (hx0.trans x1) (no_iff G.out)
  have CB' := hid fun (W : World) (hW : Ext w W) => (CB.out W hW).mono fun _ _ h => h.yes g2
  clear CB
  by_cases g3 : hasB p vs = true
  case neg =>
    have G : Hid (¬ SpIs p m n bs cs vs) := hid fun ⟨m', n', e1, e2, ok⟩ => g3 ok.hv
    rw [Bool.eq_false_iff.2 g3] at CH
    clear g2 g3 inv
    go_enter Try.func18, Try.ntmps18
    go_wp2_with (first
      | (go_at_call 39; refine (CS.out _).mono ?_; rintro _ _ ⟨rfl, rfl⟩)
      | (go_at_call 40; refine (CB'.out _ (by repeat (first | exact Ext.refl _ | assumption | refine Ext.drew ?_ | refine Ext.drewN ?_ _ | refine Ext.alloc ?_ _ | refine Ext.trans ?_ (by assumption)))).mono ?_; rintro _ w1 ⟨rfl, x1⟩; obtain ⟨q0, q1, q2, q3, q4⟩ := hbox.out w1 x1)
      | (go_at_call 33; refine (CH.out _ (hx0.trans x1)).mono ?_; rintro _ _ ⟨rfl, rfl⟩))
    go_ret
    exact RetIff.mk false rfl (hx0.trans x1) (no_iff G.out)
  rw [g3] at CH
  by_cases g4 : (0 : Int) ∈ vs
  case pos =>
    have G : Hid (¬ SpIs p m n bs cs vs) := hid fun ⟨m', n', e1, e2, ok⟩ => ok.nozero g4
    rw [decide_eq_true g4] at CZ
    clear g2 g3 inv g4
    go_enter Try.func18, Try.ntmps18
    go_wp2_with (first
      | (go_at_call 39; refine (CS.out _).mono ?_; rintro _ _ ⟨rfl, rfl⟩)
      | (go_at_call 40; refine (CB'.out _ (by repeat (first | exact Ext.refl _ | assumption | refine Ext.drew ?_ | refine Ext.drewN ?_ _ | refine Ext.alloc ?_ _ | refine Ext.trans ?_ (by assumption)))).mono ?_; rintro _ w1 ⟨rfl, x1⟩; obtain ⟨q0, q1, q2, q3, q4⟩ := hbox.out w1 x1)
      | (go_at_call 33; refine (CH.out _ (hx0.trans x1)).mono ?_; rintro _ _ ⟨rfl, rfl⟩)
      | (go_at_call 41; refine (CZ.out _ (hx0.trans x1)).mono ?_; rintro _ _ ⟨rfl, rfl⟩))
    go_ret
    exact RetIff.mk false rfl (hx0.trans x1) (no_iff G.out)
  rw [decide_eq_false g4] at CZ
  have hsp := hid fun h => SpOk.of hm hn g2 g3 g4 h
  have Inv := hid inv
  have BO := hid g2
  clear g2 g3 inv g4
  go_enter Try.func18, Try.ntmps18
  go_wp2_with (first
    | (go_at_call 39; refine (CS.out _).mono ?_; rintro _ _ ⟨rfl, rfl⟩)
    | (go_at_call 40; refine (CB'.out _ (by repeat (first | exact Ext.refl _ | assumption | refine Ext.drew ?_ | refine Ext.drewN ?_ _ | refine Ext.alloc ?_ _ | refine Ext.trans ?_ (by assumption)))).mono ?_; rintro _ w1 ⟨rfl, x1⟩; obtain ⟨q0, q1, q2, q3, q4⟩ := hbox.out w1 x1)
    | (go_at_call 33; refine (CH.out _ (hx0.trans x1)).mono ?_; rintro _ _ ⟨rfl, rfl⟩)
    | (go_at_call 41; refine (CZ.out _ (hx0.trans x1)).mono ?_; rintro _ _ ⟨rfl, rfl⟩))
  clear q0 q1 q2 q3 q4
  go_loopw [33] (fun iv wr => ∃ i : Nat, iv = .int .i64 i ∧ i ≤ m ∧ Hid (∀ j, j < i → Rise n (seg cs (beg bs j) (beg bs (j + 1)))) ∧ Ext w1 wr) (fun iv _ => m - (intOf iv).toNat)
  case atStart => exact ⟨0, rfl, Nat.zero_le _, hid (by omega), Ext.refl _⟩
  case round =>
    obtain ⟨i, rfl, hi, hall, hxr⟩ := hrel
    obtain ⟨q0, q1, q2, q3, q4⟩ := hbox.out wr (x1.trans hxr)
    by_cases hlt : i < m
    · obtain ⟨e1, d1⟩ := beg_of BO.out.2.1 BO.out.2.2.2.1 BO.out.mono (show i ≤ m by omega)
      obtain ⟨e2, d2⟩ := beg_of BO.out.2.1 BO.out.2.2.2.1 BO.out.mono (show i + 1 ≤ m by omega)
      have CL' := hid (fun W hW => CL.out W hW i (beg bs i) (beg bs (i + 1)) (by rw [BO.out.1]; omega) e1 e2 (beg_le BO.out.mono hlt) d2 (by rw [← BO.out.2.2.2.2]; exact d2) (by omega))
      clear e1 d1 e2 d2
      by_cases hr : Rise n (seg cs (beg bs i) (beg bs (i + 1)))
      · have HR := hid hr
        have CR := hid fun (v : Value) (W : World) (hV : Ints .i64 W v (seg cs (beg bs i) (beg bs (i + 1)))) => (mxRises n v _ W hV).mono fun _ _ h => h.yes hr
        clear hr
        go_wp2_with fail
        refine (CL'.out _ (hx0.trans (x1.trans hxr))).mono ?_
        rintro _ w3 ⟨vc, vv, rfl, hI, hJ, x3⟩
        have HI := hid hI
        obtain ⟨A2, C2, rfl, j1, j2, j3⟩ := hI
        obtain ⟨A3, C3, rfl, j4, j5, j6⟩ := hJ
        clear j3 j6 q0 q1 q2 q3 q4
        obtain ⟨q0, q1, q2, q3, q4⟩ := hbox.out w3 (x1.trans (hxr.trans x3))
        go_wp2_with (go_at_call 43; refine (CR.out _ _ (HI.out.ext (hx0.trans (x1.trans (hxr.trans x3))))).mono ?_; rintro _ _ ⟨rfl, rfl⟩)
        go_roundw
        case rel => exact ⟨i + 1, by go_num, by omega, hid fun j hj => by
          by_cases e : j = i
          · rw [e]; exact HR.out
          · exact hall.out j (by omega), hxr.trans x3⟩
        case measure => simp [intOf]; omega
      · have G : Hid (¬ SpIs p m n bs cs vs) := hid fun ⟨m', n', e1, e2, ok⟩ => hr ((Inv.out m' n' e1 e2 ok).rises hlt)
        have CR := hid fun (v : Value) (W : World) (hV : Ints .i64 W v (seg cs (beg bs i) (beg bs (i + 1)))) => (mxRises n v _ W hV).mono fun _ _ h => h.no hr
        clear hr
        go_wp2_with fail
        refine (CL'.out _ (hx0.trans (x1.trans hxr))).mono ?_
        rintro _ w3 ⟨vc, vv, rfl, hI, hJ, x3⟩
        have HI := hid hI
        obtain ⟨A2, C2, rfl, j1, j2, j3⟩ := hI
        obtain ⟨A3, C3, rfl, j4, j5, j6⟩ := hJ
        clear j3 j6 q0 q1 q2 q3 q4
        obtain ⟨q0, q1, q2, q3, q4⟩ := hbox.out w3 (x1.trans (hxr.trans x3))
        go_wp2_with (go_at_call 43; refine (CR.out _ _ (HI.out.ext (hx0.trans (x1.trans (hxr.trans x3))))).mono ?_; rintro _ _ ⟨rfl, rfl⟩)
        go_ret
        exact RetIff.mk false rfl (hx0.trans (x1.trans (hxr.trans x3))) (no_iff G.out)
    · obtain rfl : m = i := by omega
      go_wp2_with fail
      go_ret
      exact RetIff.mk true rfl (hx0.trans (x1.trans hxr)) (yes_iff ⟨m, n, rfl, rfl, hsp.out hall.out⟩)
theorem mxSparse_yes (p : Int) (m n : Nat) (vb vc vv : Value) (bs cs vs : List Int) (w : World) (ok : SpOk p m n bs cs vs) (hb : Ints .i64 w vb bs) (hc : Ints .i64 w vc cs) (hv : Ints .u64 w vv vs) (hx : U64s vs) :
    Calls Try.prog 18 #[.int .u64 p, spV m n vb vc vv] w (Ret (.bool true) w) :=
  have hp := rightB_true (hasB_true ok.hv).1
  (mxSparse p m n vb vc vv bs cs vs w (by omega) (by omega) hb hc hv hx).mono fun _ _ h => h.yes ⟨m, n, rfl, rfl, ok⟩
end Go.Proofs.Ytlociefncogjeaa
