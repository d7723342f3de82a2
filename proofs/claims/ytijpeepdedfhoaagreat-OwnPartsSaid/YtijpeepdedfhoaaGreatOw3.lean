/- Package own: shaped, left, tells. -/
import Derived.Test.YtijpeepdedfhoaaGreatBun14
import Derived.Test.YtijpeepdedfhoaaGreatEval
import Derived.Test.YtijpeepdedfhoaaGreatBun08
namespace Go.Proofs.YtijpeepdedfhoaaGreat
open Go.RowKit Go.Maps

set_option maxHeartbeats 1000000 in
theorem owShaped (p r c : Int) (F H S T U V : List Int) (mv fv hv sv tv uv vv : Value) (w : World) (h0 : 0 ≤ p) (h1 : p ≤ 18446744073709551615) (hm : ∃ a n k, mv = .slice a n k) (o : OwnR w fv hv sv tv uv vv F H S T U V) (hu : OwnU F H S T U V) :
    Calls Tryz.prog 43 #[.int .u64 p, matV r c mv, .agg #[fv, hv, sv, tv, uv, vv]] w (Ret (.bool (decide (r = c) && ownB p r F H S T U V)) w) := by
  have C1 := hid fun (W : World) (hW : Ext w W) => owHas p r F H S T U V fv hv sv tv uv vv W h0 h1 (o.ext hW) hu
  obtain ⟨B, hB⟩ : ∃ B, ownB p r F H S T U V = B := ⟨_, rfl⟩
  rw [hB] at C1 ⊢
  clear hB hu
  obtain ⟨a1, c1, rfl, k1, -, -⟩ := o.f
  obtain ⟨a2, c2, rfl, -, -, -⟩ := o.h
  obtain ⟨a3, c3, rfl, -, -, -⟩ := o.s
  obtain ⟨a4, c4, rfl, -, -, -⟩ := o.t
  obtain ⟨a5, c5, rfl, -, -, -⟩ := o.u
  obtain ⟨a6, c6, rfl, -, -, -⟩ := o.v
  obtain ⟨am, nm, km, rfl⟩ := hm
  clear o
  unfold matV
  by_cases e : r = c
  · have b : (r == c) = true := by simp [e]
    rw [decide_eq_true e]
    clear e
    go_enter Tryz.func43, Tryz.ntmps43
    go_wp2_with (go_at_call 12; refine (C1.out _ (by repeat (first | exact Ext.refl _ | assumption | refine Ext.drew ?_ | refine Ext.drewN ?_ _ | refine Ext.alloc ?_ _ | refine Ext.trans ?_ (by assumption)))).mono ?_; rintro _ w1 ⟨rfl, x1⟩; have y1 : Ext w w1 := Ext.trans (by repeat (first | exact Ext.refl _ | assumption | refine Ext.drew ?_ | refine Ext.drewN ?_ _ | refine Ext.alloc ?_ _ | refine Ext.trans ?_ (by assumption))) x1)
    go_ret
    exact ⟨ret_bool (by simp), y1⟩
  · have b : (r == c) = false := by simp [e]
    rw [decide_eq_false e]
    clear e
    go_enter Tryz.func43, Tryz.ntmps43
    go_wp2_with fail
    go_ret
    exact ⟨rfl, (by repeat (first | exact Ext.refl _ | assumption | refine Ext.drew ?_ | refine Ext.drewN ?_ _ | refine Ext.alloc ?_ _ | refine Ext.trans ?_ (by assumption)))⟩

/-- z times a vector, less what was made of it -/
def leftZ (p z : Int) (ws ms : List Int) : List Int := tab ws.length fun i => (z * ws.getD i 0 % p - ms.getD i 0) % p
set_option maxRecDepth 100000 in
set_option maxHeartbeats 1000000 in
theorem owLeft (p z : Int) (v u : Value) (ws ms : List Int) (w : World) (hp : rightB p = true) (hz0 : 0 ≤ z) (hz1 : z < p) (hv : Ints .u64 w v ws) (hu : Ints .u64 w u ms) (hr : Rng p ws) (hs : Rng p ms) (hl : ms.length = ws.length) (hn : 1 ≤ ws.length ∧ ws.length ≤ 64) :
    Calls Tryz.prog 53 #[.int .u64 p, .int .u64 z, v, u] w (RetL (leftZ p z ws ms) w) := by
  have hp2 := rightB_true hp
  have M1 := hid fun (x r : Int) (W : World) (h1 : 0 ≤ x) (h2 : x < p) (h : z * x % p = r) => mul_as p z x r W hp hz0 hz1 h1 h2 h
  have M2 := hid fun (x y r : Int) (W : World) (h1 : 0 ≤ x) (h2 : x < p) (h3 : 0 ≤ y) (h4 : y < p) (h : (x - y) % p = r) => sub_as p x y r W hp h1 h2 h3 h4 h
  have N1 := hid fun (x : Int) => name_mod (p := p) x hp2.1
  have R1 := hid fun (k : Nat) (h : k < ws.length) => hr.get h
  have R2 := hid fun (k : Nat) (h : k < ws.length) => hs.get (k := k) (by rw [hl]; exact h)
  unfold leftZ
  obtain ⟨n, hn'⟩ : ∃ n, ws.length = n := ⟨_, rfl⟩
  rw [hn'] at hn R1 R2 hl ⊢
  obtain ⟨F, hF⟩ : ∃ F : Nat → Int, (fun i => (z * ws.getD i 0 % p - ms.getD i 0) % p) = F := ⟨_, rfl⟩
  have HF := hid (fun i => (congrFun hF i : (z * ws.getD i 0 % p - ms.getD i 0) % p = F i))
  rw [hF]
  clear hF
  obtain ⟨a, cap, rfl, k1, k2, k3⟩ := hv
  obtain ⟨a', cap', rfl, k1', k2', k3'⟩ := hu
  rw [hn'] at k1 k3 ⊢
  rw [hl] at k1' k3' ⊢
  obtain ⟨b, off, rfl, hb, hc⟩ := k3 (by omega)
  obtain ⟨b', off', rfl, hb', hc'⟩ := k3' (by omega)
  have HC := hid hc; have HC' := hid hc'
  clear k3 k3' hc hc' hr hs hl hn'
  have hmk := make_ints (P := Tryz.prog) 23 22 .u64 8 (by omega) (by kernel_rfl) (by kernel_rfl) n n (Nat.le_refl _) (by omega)
  have hrl := hid (List.length_replicate (n := n) (a := (0 : Int)))
  go_enter Tryz.func53, Tryz.ntmps53
  go_wp2_with fail
  have hrow := hid (WRow.made (w := w) (t := 22) (n := n) rfl)
  obtain ⟨g, hg⟩ : ∃ g, w.heap.size = g := ⟨_, rfl⟩
  have hgw : w.heap.size ≤ g := by omega
  obtain ⟨w2, hw2⟩ : ∃ w2, w.alloc (.cells (madeCells #[Value.int .u64 0] n) 22) = w2 := ⟨_, rfl⟩
  have hx2 : Ext w w2 := hw2 ▸ (Ext.refl w).alloc _
  rw [hg, hw2] at hrow
  rw [hg, hw2]
  clear hg hw2 hmk
  go_loopw [19] (fun i wr => ∃ (k : Nat) (l : List Int), i = .int .i64 k ∧ k ≤ n ∧ Hid (l.length = n) ∧ Hid (∀ j, l.getD j 0 = if j < k then F j else 0) ∧ Hid (WRow wr g 0 l) ∧ Ext w wr) (fun i _ => n - (intOf i).toNat)
  case atStart => exact ⟨0, _, rfl, Nat.zero_le _, hrl, hid (fun j => by rw [replicate_get]; simp), hrow, hx2⟩
  case round =>
    obtain ⟨k, l, rfl, hk, hln, hl2, Hrw, hxw⟩ := hrel
    clear hx2
    by_cases hlt : k < n
    · have g1 := (hxw.cells _ _ hb).trans (HC.out k hlt)
      have g2 := (hxw.cells _ _ hb').trans (HC'.out k hlt)
      have r1 := R1.out k hlt
      have r2 := R2.out k hlt
      have hfk := HF.out k
      obtain ⟨x, hx⟩ : ∃ x, ws.getD k 0 = x := ⟨_, rfl⟩
      obtain ⟨y, hy⟩ : ∃ y, ms.getD k 0 = y := ⟨_, rfl⟩
      rw [hx] at g1 r1 hfk
      rw [hy] at g2 r2 hfk
      obtain ⟨q, hq, q0, q1⟩ := N1.out (z * x)
      rw [hq] at hfk
      have Hq := hid hq
      obtain ⟨f, hf⟩ : ∃ f, F k = f := ⟨_, rfl⟩
      rw [hf] at hfk
      have Hfk := hid hfk; have Hf := hid hf
      have g3 := (Hrw.out.2 k (by rw [hln.out]; omega)).1
      have g4 := (Hrw.out.2 k (by rw [hln.out]; omega)).2
      rw [Nat.zero_add] at g3 g4
      clear hx hy hq hfk hf
      go_wp2_with fail
      refine (M1.out x q wr r1.1 r1.2 Hq.out).mono ?_
      rintro _ w3 ⟨rfl, x3⟩
      have g2' := (x3.cells _ _ (Nat.lt_of_lt_of_le hb' hxw.size)).trans g2
      clear g1 g2
      go_wp2_with fail
      refine (M2.out q y f w3 q0 q1 r2.1 r2.2 Hfk.out).mono ?_
      rintro _ w4 ⟨rfl, x4⟩
      have g5 := ((Hrw.out.ext (x3.trans x4)).2 k (by rw [hln.out]; omega)).1
      have g6 := ((Hrw.out.ext (x3.trans x4)).2 k (by rw [hln.out]; omega)).2
      rw [Nat.zero_add] at g5 g6
      clear g2' g3 g4
      go_wp2_with fail
      go_roundw
      case rel =>
        have hs := (Hrw.out.ext (x3.trans x4)).set_ (i := k) (by rw [hln.out]; omega) f
        rw [Nat.zero_add] at hs
        refine ⟨k + 1, l.set k f, by go_num, by omega, hid (by rw [List.length_set]; exact hln.out), hid (fun j => ?_), hid hs, (hxw.trans (x3.trans x4)).setCell (p := ⟨g, k, none⟩) hgw _⟩
        rw [set_get l k j f (by rw [hln.out]; omega), hl2.out]
        by_cases e : k = j
        · subst e
          rw [if_pos rfl, if_pos (by omega), Hf.out]
        · rw [if_neg e]
          by_cases e2 : j < k
          · rw [if_pos e2, if_pos (by omega)]
          · rw [if_neg e2, if_neg (by omega)]
      case measure => simp [intOf]; omega
    · obtain rfl : n = k := by omega
      go_wp2_with fail
      go_ret
      have e : l = tab n F := tab_of hln.out fun j hj => by rw [hl2.out, if_pos hj]
      exact ⟨_, rfl, e ▸ Hrw.out.ints' hln.out (Nat.le_refl _) (by omega), hxw⟩

set_option maxRecDepth 100000 in
set_option maxHeartbeats 1000000 in
theorem owTells (p z : Int) (n : Nat) (F H S T U V ws : List Int) (fv hv sv tv uv vv v : Value) (w : World) (o : OwnR w fv hv sv tv uv vv F H S T U V) (ok : OwnOk p n F H S T U V) (hz0 : 0 ≤ z) (hz1 : z < p) (hv' : Ints .u64 w v ws) (hr : Rng p ws) (hl : ws.length = n) :
    Calls Tryz.prog 54 #[.int .u64 p, .agg #[fv, hv, sv, tv, uv, vv], .int .u64 z, v] w (Ret (.bool (decide (dotZ U ws % p * hor p z F.reverse % p = hor p z H.reverse))) w) := by
  have hp := ok.hp
  have hp2 := rightB_true hp
  have C1 := hid fun (W : World) (hW : Ext w W) => pEval_yes p z fv F W hp (o.f.ext hW) ok.pF (by have := ok.lF; have := ok.hn; omega) hz0 hz1
  have C2 := hid fun (W : World) (hW : Ext w W) => pEval_yes p z hv H W hp (o.h.ext hW) ok.pH (by have := ok.lF; have := ok.lH; have := ok.hn; omega) hz0 hz1
  have C3 := hid fun (W : World) (hW : Ext w W) => dot_yes p uv v U ws W (o.u.ext hW) (hv'.ext hW) (ok.rU.u64 hp2.2) (hr.u64 hp2.2) (by rw [ok.lU, hl]) (ok.rU.has hp) (hr.has hp)
  have q1 := hor_range (p := p) hp2.1 z F.reverse
  have q3 := mod_range (p := p) (dotZ U ws) hp2.1
  have C4 := hid fun (W : World) => mul_yes p (dotZ U ws % p) (hor p z F.reverse) W hp q3.1 q3.2 q1.1 q1.2
  obtain ⟨x1, e1⟩ : ∃ x, hor p z F.reverse = x := ⟨_, rfl⟩
  obtain ⟨x2, e2⟩ : ∃ x, hor p z H.reverse = x := ⟨_, rfl⟩
  obtain ⟨x3, e3⟩ : ∃ x, dotZ U ws % p = x := ⟨_, rfl⟩
  rw [e1] at C1 C4
  rw [e2] at C2
  rw [e3] at C3 C4
  rw [e1, e2, e3]
  obtain ⟨x4, e4⟩ : ∃ x, x3 * x1 % p = x := ⟨_, rfl⟩
  rw [e4] at C4 ⊢
  have eb : (x4 == x2) = decide (x4 = x2) := by rw [Bool.eq_iff_iff]; simp
  obtain ⟨B, hB⟩ : ∃ B, decide (x4 = x2) = B := ⟨_, rfl⟩
  rw [hB] at eb ⊢
  clear e1 e2 e3 e4 hB q1 q3 ok hr hl
  obtain ⟨a1, c1, rfl, k1, -, -⟩ := o.f
  obtain ⟨a2, c2, rfl, -, -, -⟩ := o.h
  obtain ⟨a3, c3, rfl, -, -, -⟩ := o.s
  obtain ⟨a4, c4, rfl, -, -, -⟩ := o.t
  obtain ⟨a5, c5, rfl, -, -, -⟩ := o.u
  obtain ⟨a6, c6, rfl, -, -, -⟩ := o.v
  obtain ⟨a7, c7, rfl, -, -, -⟩ := hv'
  clear o
  have hb := hid (show Blk (w.alloc (.cells #[.slice a1 F.length c1, .slice a2 H.length c2, .slice a3 S.length c3, .slice a4 T.length c4, .slice a5 U.length c5, .slice a6 V.length c6] 30)) w.heap.size 30 #[.slice a1 F.length c1, .slice a2 H.length c2, .slice a3 S.length c3, .slice a4 T.length c4, .slice a5 U.length c5, .slice a6 V.length c6] from Blk.new w _ _)
  have hx := hid (show Ext w (w.alloc (.cells #[.slice a1 F.length c1, .slice a2 H.length c2, .slice a3 S.length c3, .slice a4 T.length c4, .slice a5 U.length c5, .slice a6 V.length c6] 30)) from (Ext.refl w).alloc _)
  obtain ⟨b0, b1, b2, b3, b4, b5⟩ := hb.out.at6
  go_enter Tryz.func54, Tryz.ntmps54
  go_wp2_with fail
  refine (C1.out _ hx.out).mono ?_
  rintro _ w1 ⟨rfl, y1⟩
  clear b0 b1 b2 b3 b4 b5
  obtain ⟨b0, b1, b2, b3, b4, b5⟩ := (hb.out.ext y1).at6
  have z1 := hid (hx.out.trans y1)
  go_wp2_with fail
  refine (C2.out _ z1.out).mono ?_
  rintro _ w2 ⟨rfl, y2⟩
  clear b0 b1 b2 b3 b4 b5
  obtain ⟨b0, b1, b2, b3, b4, b5⟩ := (hb.out.ext (y1.trans y2)).at6
  have z2 := hid (z1.out.trans y2)
  go_wp2_with fail
  refine (C3.out _ z2.out).mono ?_
  rintro _ w3 ⟨rfl, y3⟩
  clear b0 b1 b2 b3 b4 b5
  go_wp2_with fail
  refine (C4.out _).mono ?_
  rintro _ w4 ⟨rfl, y4⟩
  go_wp2_with fail
  go_ret
  exact ⟨ret_bool (by simp), (z2.out.trans y3).trans y4⟩
end Go.Proofs.YtijpeepdedfhoaaGreat
