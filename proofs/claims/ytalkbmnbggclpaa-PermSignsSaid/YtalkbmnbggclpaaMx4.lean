/- Package matrix: Left, Mul, One. -/
import Derived.Test.YtalkbmnbggclpaaMx3
import Derived.Deep.RegionHeld3
namespace Go.Proofs.Ytalkbmnbggclpaa
open Go.RowKit Go.Maps

theorem MatOk.turn {p : Int} {m n : Nat} {xs : List Int} (h : MatOk p m n xs) : MatOk p n m (turnL m n xs) :=
  ⟨h.hp, turnL_rng (rightB_true h.hp).1 h.hx m n, h.hn, h.hm, turnL_len m n xs⟩
theorem times_turn (p : Int) (m n : Nat) (xs ys : List Int) : timesL p n m (turnL m n xs) ys = leftL p m n xs ys := by
  unfold timesL leftL
  refine tab_congr fun k hk => dv_congr (fun i hi => ?_) fun _ _ => rfl
  rw [turnL, grid_get _ hk hi]
set_option maxHeartbeats 1000000 in
theorem mxLeft_no (p r c : Int) (v u : Value) (xs ys : List Int) (w : World) (h0 : 0 ≤ p) (h1 : p ≤ 18446744073709551615) (hv : Ints .u64 w v xs) (hx : U64s xs) (hu : Ints .u64 w u ys) (hy : U64s ys) (h : (matB p r c xs && vecB p r ys) = false) :
    Calls Try.prog 29 #[.int .u64 p, u, matV r c v] w (Ret (.tuple #[.slice none 0 0, .int .i64 1]) w) := by
  cases g1 : matB p r c xs
  · have C1 := hid fun (W : World) (hW : Ext w W) => mxTurn_no p r c v xs W h0 h1 (hv.ext hW) hx g1
    obtain ⟨a, cap, rfl, k1, k2, k3⟩ := hv
    clear k3 hu hx hy h g1
    unfold matV noMat at C1
    unfold matV
    go_enter Try.func29, Try.ntmps29
    go_wp2_with (go_at_call 50; refine (C1.out _ (by repeat (first | exact Ext.refl _ | assumption | refine Ext.drew ?_ | refine Ext.drewN ?_ _ | refine Ext.alloc ?_ _ | refine Ext.trans ?_ (by assumption)))).mono ?_; rintro _ w1 ⟨rfl, x1⟩)
    go_ret2
    exact ⟨rfl, Ext.alloc (Ext.trans (by repeat (first | exact Ext.refl _ | assumption | refine Ext.drew ?_ | refine Ext.drewN ?_ _ | refine Ext.alloc ?_ _ | refine Ext.trans ?_ (by assumption))) x1) _⟩
  · rw [g1, Bool.true_and] at h
    obtain ⟨m, n, rfl, rfl, ok⟩ := MatOk.of hx g1
    have C1 := hid fun (W : World) (hW : Ext w W) => mxTurn_yes p m n v xs W ok (hv.ext hW)
    have C2 := hid fun (W : World) (hW : Ext w W) (z : Value) (hz : Ints .u64 W z (turnL m n xs)) => mxTimes_no p n m z u _ ys W h0 h1 hz ok.turn.u64 (hu.ext hW) hy (by rw [h, Bool.and_false])
    obtain ⟨a, cap, rfl, k1, k2, k3⟩ := hv
    clear k3 hu hx hy h g1 ok
    unfold matV at C1 C2
    unfold matV
    go_enter Try.func29, Try.ntmps29
    go_wp2_with (first
      | (go_at_call 50; refine (C1.out _ (by repeat (first | exact Ext.refl _ | assumption | refine Ext.drew ?_ | refine Ext.drewN ?_ _ | refine Ext.alloc ?_ _ | refine Ext.trans ?_ (by assumption)))).mono ?_; rintro _ w1 ⟨u1, rfl, hI, x1⟩; have HI := hid hI; obtain ⟨a1, cap1, rfl, l1, l2, l3⟩ := hI; clear l3; try unfold matV)
      | (go_at_call 28; refine (C2.out _ (Ext.alloc (Ext.trans (by repeat (first | exact Ext.refl _ | assumption | refine Ext.drew ?_ | refine Ext.drewN ?_ _ | refine Ext.alloc ?_ _ | refine Ext.trans ?_ (by assumption))) x1) _) _ (HI.out.alloc _)).mono ?_; rintro _ w2 ⟨rfl, x2⟩))
    go_ret2
    exact ⟨rfl, Ext.trans (Ext.alloc (Ext.trans (by repeat (first | exact Ext.refl _ | assumption | refine Ext.drew ?_ | refine Ext.drewN ?_ _ | refine Ext.alloc ?_ _ | refine Ext.trans ?_ (by assumption))) x1) _) x2⟩
set_option maxHeartbeats 1000000 in
theorem mxLeft_yes (p : Int) (m n : Nat) (v u : Value) (xs ys : List Int) (w : World) (ok : MatOk p m n xs) (hv : Ints .u64 w v xs) (hu : Ints .u64 w u ys) (hy : Rng p ys) (hyl : ys.length = m) :
    Calls Try.prog 29 #[.int .u64 p, u, matV m n v] w (RetV (leftL p m n xs ys) w) := by
  have C1 := hid fun (W : World) (hW : Ext w W) => mxTurn_yes p m n v xs W ok (hv.ext hW)
  have C2 := hid fun (W : World) (hW : Ext w W) (z : Value) (hz : Ints .u64 W z (turnL m n xs)) => times_turn p m n xs ys ▸ mxTimes_yes p n m z u _ ys W ok.turn hz (hu.ext hW) hy hyl
  obtain ⟨a, cap, rfl, k1, k2, k3⟩ := hv
  clear k3 hu hy hyl ok
  unfold matV at C1 C2
  unfold matV
  go_enter Try.func29, Try.ntmps29
  go_wp2_with (first
    | (go_at_call 50; refine (C1.out _ (by repeat (first | exact Ext.refl _ | assumption | refine Ext.drew ?_ | refine Ext.drewN ?_ _ | refine Ext.alloc ?_ _ | refine Ext.trans ?_ (by assumption)))).mono ?_; rintro _ w1 ⟨u1, rfl, hI, x1⟩; have HI := hid hI; obtain ⟨a1, cap1, rfl, l1, l2, l3⟩ := hI; clear l3; try unfold matV)
    | (go_at_call 28; refine (C2.out _ (Ext.alloc (Ext.trans (by repeat (first | exact Ext.refl _ | assumption | refine Ext.drew ?_ | refine Ext.drewN ?_ _ | refine Ext.alloc ?_ _ | refine Ext.trans ?_ (by assumption))) x1) _) _ (HI.out.alloc _)).mono ?_; rintro _ w2 ⟨u2, rfl, hI2, x2⟩; have HI2 := hid hI2; obtain ⟨a2, cap2, rfl, i1, i2, i3⟩ := hI2; clear i3))
  go_ret2
  exact ⟨_, rfl, HI2.out, Ext.trans (Ext.alloc (Ext.trans (by repeat (first | exact Ext.refl _ | assumption | refine Ext.drew ?_ | refine Ext.drewN ?_ _ | refine Ext.alloc ?_ _ | refine Ext.trans ?_ (by assumption))) x1) _) x2⟩

theorem boxesM3 (w : World) (t : TypeId) (A B C : Array Value) :
    Blk (((w.alloc (.cells A t)).alloc (.cells B t)).alloc (.cells C t)) w.heap.size t A ∧ Blk (((w.alloc (.cells A t)).alloc (.cells B t)).alloc (.cells C t)) (w.heap.size + 1) t B ∧
    Blk (((w.alloc (.cells A t)).alloc (.cells B t)).alloc (.cells C t)) (w.heap.size + 1 + 1) t C ∧ Ext w (((w.alloc (.cells A t)).alloc (.cells B t)).alloc (.cells C t)) :=
  ⟨(Blk.new w t A).ext (((Ext.refl _).alloc _).alloc _), (Blk.at_ (by rw [alloc_size])).ext ((Ext.refl _).alloc _), Blk.at_ (by rw [alloc_size, alloc_size]), (((Ext.refl w).alloc _).alloc _).alloc _⟩

end Go.Proofs.Ytalkbmnbggclpaa
