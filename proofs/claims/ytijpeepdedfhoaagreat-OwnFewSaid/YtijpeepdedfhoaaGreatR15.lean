/- The document's own Short and Same of claims; whether a place is one where a matrix keeps a direction. -/
import Derived.Test.YtijpeepdedfhoaaGreatBun22
import Derived.Test.YtijpeepdedfhoaaGreatBun26
import Derived.Test.YtijpeepdedfhoaaGreatBun08
import Derived.Deep.AppendLies
namespace Go.Proofs.YtijpeepdedfhoaaGreat
open Go.RowKit Go.Maps

def shortO (F H S T U V : List Int) : Bool := decide (F.length ≤ 20) && (decide (H.length ≤ 20) && (decide (S.length ≤ 20) && (decide (T.length ≤ 20) && (decide (U.length ≤ 70) && decide (V.length ≤ 70)))))
set_option maxRecDepth 100000 in
set_option maxHeartbeats 1000000 in
theorem r15Short (F H S T U V : List Int) (fv hv sv tv uv vv : Value) (w : World) (o : OwnR w fv hv sv tv uv vv F H S T U V) :
    Calls Tryz.prog 19 #[.agg #[fv, hv, sv, tv, uv, vv]] w (Ret (.bool (shortO F H S T U V)) w) := by
  unfold shortO
  obtain ⟨a1, c1, rfl, -, -, -⟩ := o.f
  obtain ⟨a2, c2, rfl, -, -, -⟩ := o.h
  obtain ⟨a3, c3, rfl, -, -, -⟩ := o.s
  obtain ⟨a4, c4, rfl, -, -, -⟩ := o.t
  obtain ⟨a5, c5, rfl, -, -, -⟩ := o.u
  obtain ⟨a6, c6, rfl, -, -, -⟩ := o.v
  clear o
  obtain ⟨f, ef⟩ : ∃ x, F.length = x := ⟨_, rfl⟩
  obtain ⟨h, eh⟩ : ∃ x, H.length = x := ⟨_, rfl⟩
  obtain ⟨s, es⟩ : ∃ x, S.length = x := ⟨_, rfl⟩
  obtain ⟨t, et⟩ : ∃ x, T.length = x := ⟨_, rfl⟩
  obtain ⟨u, eu⟩ : ∃ x, U.length = x := ⟨_, rfl⟩
  obtain ⟨v, ev⟩ : ∃ x, V.length = x := ⟨_, rfl⟩
  rw [ef, eh, es, et, eu, ev]
  clear ef eh es et eu ev
  have hB := hid (show Blk (w.alloc (.cells #[.slice a1 f c1, .slice a2 h c2, .slice a3 s c3, .slice a4 t c4, .slice a5 u c5, .slice a6 v c6] 30)) w.heap.size 30 #[.slice a1 f c1, .slice a2 h c2, .slice a3 s c3, .slice a4 t c4, .slice a5 u c5, .slice a6 v c6] from Blk.new w _ _)
  obtain ⟨b0, b1, b2, b3, b4, b5⟩ := hB.out.at6
  by_cases k1 : f ≤ 20
  case neg =>
    rw [decide_eq_false k1]
    go_enter Tryz.func19, Tryz.ntmps19
    go_wp2_with fail
    go_ret
    exact ⟨rfl, (Ext.refl w).alloc _⟩
  rw [decide_eq_true k1]
  by_cases k2 : h ≤ 20
  case neg =>
    rw [decide_eq_false k2]
    go_enter Tryz.func19, Tryz.ntmps19
    go_wp2_with fail
    go_ret
    exact ⟨rfl, (Ext.refl w).alloc _⟩
  rw [decide_eq_true k2]
  by_cases k3 : s ≤ 20
  case neg =>
    rw [decide_eq_false k3]
    go_enter Tryz.func19, Tryz.ntmps19
    go_wp2_with fail
    go_ret
    exact ⟨rfl, (Ext.refl w).alloc _⟩
  rw [decide_eq_true k3]
  by_cases k4 : t ≤ 20
  case neg =>
    rw [decide_eq_false k4]
    go_enter Tryz.func19, Tryz.ntmps19
    go_wp2_with fail
    go_ret
    exact ⟨rfl, (Ext.refl w).alloc _⟩
  rw [decide_eq_true k4]
  by_cases k5 : u ≤ 70
  case neg =>
    rw [decide_eq_false k5]
    go_enter Tryz.func19, Tryz.ntmps19
    go_wp2_with fail
    go_ret
    exact ⟨rfl, (Ext.refl w).alloc _⟩
  rw [decide_eq_true k5]
  obtain ⟨B, eB⟩ : ∃ B, decide (v ≤ 70) = B := ⟨_, rfl⟩
  have eB2 : decide ((v : Int) ≤ 70) = B := by rw [← eB, Bool.eq_iff_iff, decide_eq_true_eq, decide_eq_true_eq]; omega
  rw [eB]
  clear eB
  go_enter Tryz.func19, Tryz.ntmps19
  go_wp2_with fail
  go_ret
  refine ⟨ret_bool ?_, (Ext.refl w).alloc _⟩
  simp

set_option maxRecDepth 100000 in
set_option maxHeartbeats 2000000 in
theorem r15Same_yes (F H S T U V : List Int) (fv hv sv tv uv vv fv' hv' sv' tv' uv' vv' : Value) (w : World) (o : OwnR w fv hv sv tv uv vv F H S T U V) (o' : OwnR w fv' hv' sv' tv' uv' vv' F H S T U V) :
    Calls Tryz.prog 28 #[.agg #[fv, hv, sv, tv, uv, vv], .agg #[fv', hv', sv', tv', uv', vv']] w (Ret (.bool true) w) := by
  have C1 := hid fun (W : World) (hW : Ext w W) => same_yes fv fv' F W (o.f.ext hW) (o'.f.ext hW)
  have C2 := hid fun (W : World) (hW : Ext w W) => same_yes hv hv' H W (o.h.ext hW) (o'.h.ext hW)
  have C3 := hid fun (W : World) (hW : Ext w W) => same_yes sv sv' S W (o.s.ext hW) (o'.s.ext hW)
  have C4 := hid fun (W : World) (hW : Ext w W) => same_yes tv tv' T W (o.t.ext hW) (o'.t.ext hW)
  have C5 := hid fun (W : World) (hW : Ext w W) => same_yes uv uv' U W (o.u.ext hW) (o'.u.ext hW)
  have C6 := hid fun (W : World) (hW : Ext w W) => same_yes vv vv' V W (o.v.ext hW) (o'.v.ext hW)
  obtain ⟨a1, c1, rfl, -, -, -⟩ := o.f
  obtain ⟨a2, c2, rfl, -, -, -⟩ := o.h
  obtain ⟨a3, c3, rfl, -, -, -⟩ := o.s
  obtain ⟨a4, c4, rfl, -, -, -⟩ := o.t
  obtain ⟨a5, c5, rfl, -, -, -⟩ := o.u
  obtain ⟨a6, c6, rfl, -, -, -⟩ := o.v
  obtain ⟨b1, d1, rfl, -, -, -⟩ := o'.f
  obtain ⟨b2, d2, rfl, -, -, -⟩ := o'.h
  obtain ⟨b3, d3, rfl, -, -, -⟩ := o'.s
  obtain ⟨b4, d4, rfl, -, -, -⟩ := o'.t
  obtain ⟨b5, d5, rfl, -, -, -⟩ := o'.u
  obtain ⟨b6, d6, rfl, -, -, -⟩ := o'.v
  clear o o'
  have hB := hid (boxes2 w 30 30 #[.slice a1 F.length c1, .slice a2 H.length c2, .slice a3 S.length c3, .slice a4 T.length c4, .slice a5 U.length c5, .slice a6 V.length c6] #[.slice b1 F.length d1, .slice b2 H.length d2, .slice b3 S.length d3, .slice b4 T.length d4, .slice b5 U.length d5, .slice b6 V.length d6])
  obtain ⟨p0, p1, p2, p3, p4, p5⟩ := hB.out.1.at6
  obtain ⟨q0, q1, q2, q3, q4, q5⟩ := hB.out.2.1.at6
  go_enter Tryz.func28, Tryz.ntmps28
  go_wp2_with fail
  refine (C1.out _ hB.out.2.2).mono ?_
  rintro _ w1 ⟨rfl, x1⟩
  have y1 := hid (hB.out.2.2.trans x1)
  clear p0 p1 p2 p3 p4 p5 q0 q1 q2 q3 q4 q5
  obtain ⟨p0, p1, p2, p3, p4, p5⟩ := (hB.out.1.ext x1).at6
  obtain ⟨q0, q1, q2, q3, q4, q5⟩ := (hB.out.2.1.ext x1).at6
  go_wp2_with fail
  refine (C2.out _ y1.out).mono ?_
  rintro _ w2 ⟨rfl, x2⟩
  have y2 := hid (y1.out.trans x2)
  clear p0 p1 p2 p3 p4 p5 q0 q1 q2 q3 q4 q5
  obtain ⟨p0, p1, p2, p3, p4, p5⟩ := (hB.out.1.ext (x1.trans x2)).at6
  obtain ⟨q0, q1, q2, q3, q4, q5⟩ := (hB.out.2.1.ext (x1.trans x2)).at6
  go_wp2_with fail
  refine (C3.out _ y2.out).mono ?_
  rintro _ w3 ⟨rfl, x3⟩
  have y3 := hid (y2.out.trans x3)
  clear p0 p1 p2 p3 p4 p5 q0 q1 q2 q3 q4 q5
  obtain ⟨p0, p1, p2, p3, p4, p5⟩ := (hB.out.1.ext ((x1.trans x2).trans x3)).at6
  obtain ⟨q0, q1, q2, q3, q4, q5⟩ := (hB.out.2.1.ext ((x1.trans x2).trans x3)).at6
  go_wp2_with fail
  refine (C4.out _ y3.out).mono ?_
  rintro _ w4 ⟨rfl, x4⟩
  have y4 := hid (y3.out.trans x4)
  clear p0 p1 p2 p3 p4 p5 q0 q1 q2 q3 q4 q5
  obtain ⟨p0, p1, p2, p3, p4, p5⟩ := (hB.out.1.ext (((x1.trans x2).trans x3).trans x4)).at6
  obtain ⟨q0, q1, q2, q3, q4, q5⟩ := (hB.out.2.1.ext (((x1.trans x2).trans x3).trans x4)).at6
  go_wp2_with fail
  refine (C5.out _ y4.out).mono ?_
  rintro _ w5 ⟨rfl, x5⟩
  have y5 := hid (y4.out.trans x5)
  clear p0 p1 p2 p3 p4 p5 q0 q1 q2 q3 q4 q5
  obtain ⟨p0, p1, p2, p3, p4, p5⟩ := (hB.out.1.ext ((((x1.trans x2).trans x3).trans x4).trans x5)).at6
  obtain ⟨q0, q1, q2, q3, q4, q5⟩ := (hB.out.2.1.ext ((((x1.trans x2).trans x3).trans x4).trans x5)).at6
  go_wp2_with fail
  refine (C6.out _ y5.out).mono ?_
  rintro _ w6 ⟨rfl, x6⟩
  go_wp2_with fail
  go_ret
  exact ⟨rfl, y5.out.trans x6⟩
end Go.Proofs.YtijpeepdedfhoaaGreat
