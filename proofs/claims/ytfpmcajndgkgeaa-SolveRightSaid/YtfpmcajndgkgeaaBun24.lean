/- What the texts R8Cram, R8A, R8Solve, R8Kern show, in one text. -/
import Derived.Test.YtfpmcajndgkgeaaBun22
import Derived.Test.YtfpmcajndgkgeaaBun23
import Derived.Test.YtfpmcajndgkgeaaBun11
import Derived.Test.YtfpmcajndgkgeaaRound
import Derived.Test.YtfpmcajndgkgeaaStep
import Derived.Deep.RegionLaw
import Derived.Deep.RegionHeld3
import Derived.Test.YtfpmcajndgkgeaaR8Core
import Derived.Test.YtfpmcajndgkgeaaBun04
import Derived.Test.YtfpmcajndgkgeaaBun10
import Derived.Test.YtfpmcajndgkgeaaBun05
import Derived.Test.YtfpmcajndgkgeaaBun09
/- The document's own answer of layer 8: numbers by determinants. -/
namespace Go.Proofs.Ytfpmcajndgkgeaa
open Go.RowKit Go.Maps

/-- the numbers of a matrix in which a column's first so many are others -/
def colTo (r : Nat) (ns b : List Int) (k i : Nat) : List Int := tab (r * r) fun t => if t % r = k ∧ t / r < i then b.getD (t / r) 0 else ns.getD t 0
theorem colTo_zero {r : Nat} {ns b : List Int} (k : Nat) (h : ns.length = r * r) : colTo r ns b k 0 = ns :=
  list_ext (by rw [colTo, tab_len, h]) fun j hj => by
    rw [colTo, tab_len] at hj
    rw [colTo, tab_get _ hj, if_neg fun c => absurd c.2 (Nat.not_lt_zero _)]
theorem colTo_succ {r : Nat} {ns b : List Int} {k i : Nat} (hk : k < r) (hi : i < r) : (colTo r ns b k i).set (i * r + k) (b.getD i 0) = colTo r ns b k (i + 1) := by
  have hat := at_lt hi hk
  refine list_ext (by rw [List.length_set, colTo, colTo, tab_len, tab_len]) fun j hj => ?_
  rw [List.length_set, colTo, tab_len] at hj
  rw [set_get _ _ _ _ (by rw [colTo, tab_len]; exact hat), colTo, colTo, tab_get _ hj, tab_get _ hj]
  by_cases e : i * r + k = j
  · subst e
    rw [if_pos rfl, at_mod hk, at_div hk, if_pos ⟨rfl, by omega⟩]
  · rw [if_neg e]
    by_cases c : j % r = k ∧ j / r < i
    · rw [if_pos c, if_pos ⟨c.1, by omega⟩]
    · rw [if_neg c, if_neg]
      rintro ⟨c1, c2⟩
      have : j / r = i := by
        rcases Nat.lt_or_ge (j / r) i with h | h
        · exact absurd ⟨c1, h⟩ c
        · omega
      apply e
      rw [← this, ← c1, Nat.mul_comm]
      exact Nat.div_add_mod j r
theorem colTo_all {r : Nat} {ns b : List Int} {k : Nat} : detF r (atF r (colTo r ns b k r)) = detF r (putC (atF r ns) k fun i => b.getD i 0) :=
  detF_congr r fun i j hi hj => by
    show (colTo r ns b k r).getD (i * r + j) 0 = if j = k then b.getD i 0 else ns.getD (i * r + j) 0
    rw [colTo, tab_get _ (at_lt hi hj), at_mod hj, at_div hj]
    by_cases e : j = k
    · rw [if_pos ⟨e, hi⟩, if_pos e]
    · rw [if_neg (fun c => e c.1), if_neg e]
theorem colTo_rng {p : Int} {r : Nat} {ns b : List Int} (hp : 2 ≤ p) (hn : Rng p ns) (hb : Rng p b) (k i : Nat) : Rng p (colTo r ns b k i) := tab_rng fun t _ => by
  split
  · exact hb.getD hp _
  · exact hn.getD hp _

theorem run_mul (o : Oper) (ev : Operand → Value) (x y : Operand) (A B C : Int) (w : World) (ho : o.op = Op.binOp .mul 3 x y 3) (hx : ev x = .int .i64 A) (hy : ev y = .int .i64 B) (hC : IntKind.i64.wrap (A * B) = C) : (execOp ev o).run Try.prog w = .ok (.value (.int .i64 C)) w := by
  subst hC
  unfold execOp
  rw [ho]
  simp only [hx, hy]
  go_simp
theorem run_add (o : Oper) (ev : Operand → Value) (x y : Operand) (A B C : Int) (w : World) (ho : o.op = Op.binOp .add 3 x y 3) (hx : ev x = .int .i64 A) (hy : ev y = .int .i64 B) (hC : IntKind.i64.wrap (A + B) = C) : (execOp ev o).run Try.prog w = .ok (.value (.int .i64 C)) w := by
  subst hC
  unfold execOp
  rw [ho]
  simp only [hx, hy]
  go_simp
theorem wrap_small (q : Nat) (h : q ≤ 1000000) : IntKind.i64.wrap (q : Int) = (q : Int) := by rw [IntKind.wrap_i64]; omega
theorem run_mulN (o : Oper) (ev : Operand → Value) (x y : Operand) (A B C : Nat) (w : World) (ho : o.op = Op.binOp .mul 3 x y 3) (hx : ev x = .int .i64 (A : Int)) (hy : ev y = .int .i64 (B : Int)) (h : (A : Int) * (B : Int) = (C : Int)) (h6 : C ≤ 1000000) : (execOp ev o).run Try.prog w = .ok (.value (.int .i64 (C : Int))) w :=
  run_mul o ev x y A B C w ho hx hy (by rw [h]; exact wrap_small C h6)
theorem run_addN (o : Oper) (ev : Operand → Value) (x y : Operand) (A B C : Nat) (w : World) (ho : o.op = Op.binOp .add 3 x y 3) (hx : ev x = .int .i64 (A : Int)) (hy : ev y = .int .i64 (B : Int)) (h : (A : Int) + (B : Int) = (C : Int)) (h6 : C ≤ 1000000) : (execOp ev o).run Try.prog w = .ok (.value (.int .i64 (C : Int))) w :=
  run_add o ev x y A B C w ho hx hy (by rw [h]; exact wrap_small C h6)
theorem grown_cell' {A B : World} {g b o : Nat} (hg : A.grownBy B (some g)) (h : b < A.heap.size) (n : b ≠ g) : B.cell? ⟨b, o, none⟩ = A.cell? ⟨b, o, none⟩ := World.cell?_of_block (a := ⟨b, o, none⟩) (hg.block b h (fun e => n (by injection e)))
theorem ext_grownBy {w w' : World} {row : Option Nat} (h : Ext w w') : w.grownBy w' row := ⟨h.os, h.tape, h.output, h.size, fun k hk _ => h.block k hk⟩
set_option maxRecDepth 100000 in
set_option maxHeartbeats 4000000 in
theorem r8Cramer (p : Int) (r : Nat) (v u : Value) (ns b : List Int) (w : World) (hp : rightB p = true) (hf : Fld p) (hv : Ints .u64 w v ns) (hu : Ints .u64 w u b) (hn : Rng p ns) (hb : Rng p b) (hnl : ns.length = r * r) (hbl : b.length = r) (hr : r ≤ 64) (hd : detF r (atF r ns) % p ≠ 0) :
    Calls Try.prog 64 #[.int .u64 p, matV r r v, u] w (RetL (crL p r ns b) w) := by
  have hp2 := rightB_true hp
  obtain ⟨i0, hi, hz0, hz1, hz2⟩ := info_parts info_u64p
  by_cases h0 : r = 0
  · subst h0
    have b0 : ((0 : Int) == 0) = true := rfl
    obtain ⟨a, cap, rfl, k1, k2, k3⟩ := hv
    clear k3
    unfold matV
    go_enter Try.func64, Try.ntmps64
    go_wp2_with fail
    go_ret
    exact ⟨_, rfl, Ints.nil, (by repeat (first | exact Ext.refl _ | assumption | refine Ext.drew ?_ | refine Ext.drewN ?_ _ | refine Ext.alloc ?_ _ | refine Ext.trans ?_ (by assumption)))⟩
  · have b0 : ((r : Int) == 0) = false := by rw [beq_eq_false_iff_ne]; omega
    obtain ⟨D, hD⟩ : ∃ D, detF r (atF r ns) % p = D := ⟨_, rfl⟩
    have hDr : 0 ≤ D ∧ D < p := by rw [← hD]; exact mod_range _ hp2.1
    rw [hD] at hd
    have hDu := hf D (by omega) hDr.2
    obtain ⟨z, ez⟩ : ∃ z, minv p D = z := ⟨_, rfl⟩
    have hzr := minv_range p D hp2.1
    rw [ez] at hzr
    have CD := hid fun (W : World) (hW : Ext w W) => (hD ▸ r7Det p hp r (by omega) hr v ns W (hv.ext hW) hn hnl : Calls Try.prog 115 #[.int .u64 p, matV r r v] W (Ret (.int .u64 D) W))
    have CI := hid fun (W : World) => (ez ▸ rInv_yes p D W hp hDr.1 hDr.2 hDu : Calls Try.prog 114 #[.int .u64 p, .int .u64 D] W (Ret (.tuple #[.int .u64 z, .int .i64 0]) W))
    have CE := hid fun (W : World) (v' : Value) (ys : List Int) (h1 : Ints .u64 W v' ys) (h2 : Rng p ys) (h3 : ys.length = r * r) => r7Det p hp r (by omega) hr v' ys W h1 h2 h3
    obtain ⟨F, hF⟩ : ∃ F : Nat → Int, (fun k => (detF r (putC (atF r ns) k fun i => b.getD i 0) % p) * minv p (detF r (atF r ns) % p) % p) = F := ⟨_, rfl⟩
    have HF := hid fun k => (congrFun hF k : (detF r (putC (atF r ns) k fun i => b.getD i 0) % p) * minv p (detF r (atF r ns) % p) % p = F k)
    have hcr : crL p r ns b = tab r F := by rw [← hF]; rfl
    rw [hcr]
    rw [hD, ez] at HF
    clear hF hcr
    have HP := hid hp; have Hn := hid hn; have Hb := hid hb; have Hnl := hid hnl; have Hv := hid hv; have Hu := hid hu
    obtain ⟨a, cap, rfl, k1, k2, k3⟩ := hv
    obtain ⟨a', cap', rfl, k1', k2', k3'⟩ := hu
    have K3 := hid k3; have K3' := hid k3'
    rw [hbl] at k1' K3' Hu ⊢
    clear k3 k3' hd hDu hp hn hb hbl
    obtain ⟨N, hN⟩ : ∃ N, ns.length = N := ⟨_, rfl⟩
    rw [hN] at k1 CD Hnl K3 Hv ⊢
    have HN := hid hN
    clear hN hnl
    unfold matV at CD CE
    unfold matV
    go_enter Try.func64, Try.ntmps64
    have HA := hid (Blk.new w 25 #[.int .i64 (r : Int), .int .i64 (r : Int), .slice a N cap])
    have hx1 := hid ((Ext.refl w).alloc (.cells #[.int .i64 (r : Int), .int .i64 (r : Int), .slice a N cap] 25))
    obtain ⟨c0, c1, c2⟩ := HA.out.at3
    go_wp2_with (first
      | (go_at_call 115; refine (CD.out _ hx1.out).mono ?_; rintro _ w2 ⟨rfl, x2⟩)
      | (go_at_call 114; refine (CI.out _).mono ?_; rintro _ w3 ⟨rfl, x3⟩))
    have X3 := hid (hx1.out.trans (x2.trans x3))
    have HB := hid (HA.out.ext (x2.trans x3))
    clear c0 c1 c2 CI CD x2 x3
    go_loopw [10, 7] (fun kv ov wr => ∃ k : Nat, kv = .int .i64 k ∧ k ≤ r ∧ Hid (wr.ownsRow w3.heap.size 22 1 ov k ((tab k F).map (Value.int .u64))) ∧ Hid (Ext w3 wr)) (fun kv _ _ => r - (intOf kv).toNat)
    case atStart => exact ⟨0, rfl, Nat.zero_le _, hid (World.ownsRow_nil _ _ _ _), hid (Ext.refl _)⟩
    case round =>
      obtain ⟨k, rfl, hk, hown, hxr⟩ := hrel
      rename World => wr
      obtain ⟨c0, c1, c2⟩ := (HB.out.ext hxr.out).at3
      by_cases hlt : k < r
      · have hNp : 0 < N := by rw [Hnl.out]; exact Nat.mul_pos (by omega) (by omega)
        obtain ⟨bn, on, rfl, hbn, kcn⟩ := K3.out hNp
        have hNb : N ≤ 4096 := by rw [Hnl.out]; exact Nat.mul_le_mul hr hr
        have hxw := hid (X3.out.trans hxr.out)
        have news := hid fun (W : World) (hW : Ext wr W) (j : Nat) (u : Value) (hj : (ns.map (Value.int .u64))[j]? = some u) => (show W.cell? ((⟨bn, on, none⟩ : Addr).add j) = some u from by
          have hjl : j < N := by
            rcases Nat.lt_or_ge j N with h | h
            · exact h
            · rw [List.getElem?_eq_none (by rw [List.length_map, HN.out]; exact h)] at hj; cases hj
          rw [show ((⟨bn, on, none⟩ : Addr).add j) = ⟨bn, on + j, none⟩ from Go.WideShapes.add_plain _ _ _, (hxw.out.trans hW).cells _ _ hbn, kcn j hjl]
          rw [List.getElem?_map, List.getElem?_eq_getElem (by rw [HN.out]; exact hjl)] at hj
          simp only [Option.map_some, Option.some.injEq] at hj
          rw [← hj]
          simp [List.getD, List.getElem?_eq_getElem (show j < ns.length by rw [HN.out]; exact hjl)])
        have ones := hid (show ∀ u ∈ ns.map (Value.int .u64), u.oneCell' = true from fun u hu => by
          obtain ⟨q, _, rfl⟩ := List.mem_map.1 hu
          rfl)
        have hnm := hid (show (ns.map (Value.int .u64)).length = N * 1 by rw [List.length_map, HN.out, Nat.mul_one])
        have hso := hxr.out.size
        have hmx : Try.prog.follows .mixedOrders = true := by kernel_rfl
        have CF := hid fun (W' : World) (hS : Ext wr W') => (show W'.cell? ⟨w.heap.size, 0, none⟩ = some (.int .i64 (r : Int)) ∧ W'.cell? ⟨w.heap.size, 1, none⟩ = some (.int .i64 (r : Int)) ∧ W'.cell? ⟨w.heap.size, 2, none⟩ = some (.slice (some ⟨bn, on, none⟩) N cap) from by
          have h := HB.out.ext (hxr.out.trans hS)
          exact ⟨h.cell 0, h.cell 1, h.cell 2⟩)
        have lit := hid fun (V : World) (hV : Ext wr V) => (show (V.alloc (.cells #[] 22)).ownsRow wr.heap.size 22 1 (.slice (some ⟨V.heap.size, 0, none⟩) 0 0) 0 [] from World.ownsRow_lit (base := wr.heap.size) (e := 22) (size := 1) V #[] 0 hV.size (by decide) rfl)
        clear kcn
        go_upto_region 8 with fail
        go_cut [11] from 29 to 39 (fun pv w' => ∃ g7 g6 c6 : Nat, pv = .pointer (some ⟨g7, 0, none⟩) ∧ wr.heap.size ≤ g7 ∧ w'.ownsRow wr.heap.size 22 1 (.slice (some ⟨g6, 0, none⟩) N c6) N (ns.map (Value.int .u64)) ∧ Blk w' g7 25 #[.int .i64 (r : Int), .int .i64 (r : Int), .slice (some ⟨g6, 0, none⟩) N c6] ∧ Ext wr w')
        case first =>
         refine wp_region_held_drew (S := fun W' => Ext wr W') hmx (Ext.refl wr).drew (fun hHeld => ?_)
         have X0 : Ext wr wr.drew := (Ext.refl wr).drew
         refine wpAnyH_take (i := 0) (v := .pointer (some ⟨w.heap.size, 0, none⟩)) rfl (by kernel_rfl) (by kernel_rfl) (by kernel_rfl) (fun _ _ _ h => h) (Or.inl ⟨by rfl, ?_⟩) hHeld ?_
         · intro W' hSw
           obtain ⟨q0, q1, q2⟩ := CF.out W' hSw
           go_simp
         refine wpAnyH_take (i := 1) (v := .int .i64 (r : Int)) rfl (by kernel_rfl) (by kernel_rfl) (by kernel_rfl) (fun _ _ _ h => h) (Or.inl ⟨by rfl, ?_⟩) hHeld ?_
         · intro W' hSw
           obtain ⟨q0, q1, q2⟩ := CF.out W' hSw
           go_simp
         refine wpAnyH_take (i := 2) (v := .pointer (some ⟨w.heap.size, 1, none⟩)) rfl (by kernel_rfl) (by kernel_rfl) (by kernel_rfl) (fun _ _ _ h => h) (Or.inl ⟨by rfl, ?_⟩) hHeld ?_
         · intro W' hSw
           obtain ⟨q0, q1, q2⟩ := CF.out W' hSw
           go_simp
         refine wpAnyH_take (i := 3) (v := .int .i64 (r : Int)) rfl (by kernel_rfl) (by kernel_rfl) (by kernel_rfl) (fun _ _ _ h => h) (Or.inl ⟨by rfl, ?_⟩) hHeld ?_
         · intro W' hSw
           obtain ⟨q0, q1, q2⟩ := CF.out W' hSw
           go_simp
         refine wpAnyH_take (i := 5) (v := .pointer (some ⟨w.heap.size, 2, none⟩)) rfl (by kernel_rfl) (by kernel_rfl) (by kernel_rfl) (fun _ _ _ h => h) (Or.inl ⟨by rfl, ?_⟩) hHeld ?_
         · intro W' hSw
           obtain ⟨q0, q1, q2⟩ := CF.out W' hSw
           go_simp
         refine wpAnyH_take (i := 6) (v := .slice (some ⟨bn, on, none⟩) N cap) rfl (by kernel_rfl) (by kernel_rfl) (by kernel_rfl) (fun _ _ _ h => h) (Or.inl ⟨by rfl, ?_⟩) hHeld ?_
         · intro W' hSw
           obtain ⟨q0, q1, q2⟩ := CF.out W' hSw
           go_simp
         refine wpAnyH_ready (rs := [4, 9]) (by kernel_rfl) (by simp) ?_
         refine AllReadyH.cons rfl (fun K hK => ?_) ?_
         · go_simp
           have XL : Ext wr (wr.alloc (.cells #[] 22)).drew := ((by repeat (first | exact Ext.refl _ | refine Ext.drew ?_ | refine Ext.alloc ?_ _)))
           have hLit : (wr.alloc (.cells #[] 22)).drew.ownsRow wr.heap.size 22 1 (.slice (some ⟨wr.heap.size, 0, none⟩) 0 0) 0 [] := ownsRow_ext (lit.out wr (Ext.refl wr)) (Ext.refl _).drew
           refine hK.out _ _ XL (fun hHeld => ?_)
           clear hK K
           refine wpAnyH_ready (rs := [7, 9]) (by kernel_rfl) (by simp) ?_
           refine AllReadyH.cons rfl (fun K hK => ?_) ?_
           · have hsz6 := Ext.size XL
             refine step_append_at _ rfl (.tmp 35) (.tmp 37) 23 rfl wr.heap.size 22 i0 (.int .u64 0) 1 8 Try.underlying23 hi hz0 hz1 hz2 rfl (by decide) (.slice (some ⟨wr.heap.size, 0, none⟩) 0 0) 0 [] (by simp [Act.eval]) hLit ⟨bn, on, none⟩ N cap (ns.map (Value.int .u64)) (by simp [Act.eval]) hnm.out (news.out _ XL) ones.out (by simp only [maxLen]; omega) (by omega) hsz6 ?_
             intro v6 w6 hown6 hgrow6 hat6
             rw [Nat.zero_add, List.nil_append] at hown6
             have Hown6 := hid hown6
             have X6 : Ext wr w6 := Ext.grown XL hgrow6 (fun k e => (hLit.lt k e).1)
             obtain ⟨a6, c6, rfl, -, -, -, KS6⟩ := own_slice hown6
             obtain ⟨g6, rfl, -, -, -⟩ := KS6 hNp
             clear hown6 hgrow6 hat6 KS6
             refine hK.out _ _ X6 (fun hHeld => ?_)
             clear hK K
             refine wpAnyH_take (i := 8) (v := .agg #[.int .i64 (r : Int), .int .i64 (r : Int), .slice (some ⟨g6, 0, none⟩) N c6]) rfl (by kernel_rfl) (by kernel_rfl) (by kernel_rfl) (fun _ _ _ h => h) (Or.inl ⟨by rfl, ?_⟩) hHeld ?_
             · intro W' hSw
               go_simp
             refine held_step 9 (by kernel_rfl) rfl (fun K hK => ?_)
             go_simp
             refine hK.out _ _ (X6.alloc _) (fun hHeld => ?_)
             clear hK K
             refine held_step 10 (by kernel_rfl) rfl (fun K hK => ?_)
             go_simp
             have XF : Ext wr (w6.alloc (.cells #[.int .i64 (r : Int), .int .i64 (r : Int), .slice (some ⟨g6, 0, none⟩) N c6] 25)) := X6.alloc _
             refine hK.out _ _ XF (fun hHeld => ?_)
             clear hK K
             refine wpAnyH_done (by kernel_rfl) ?_ _
             go_wp2_with fail
             go_meet
             exact ⟨w6.heap.size, g6, c6, rfl, X6.size, ownsRow_ext Hown6.out ((Ext.refl _).alloc _), Blk.new _ _ _, XF⟩
           refine AllReadyH.cons rfl (fun K hK => ?_) ?_
           · go_simp
             have XZ : Ext wr ((wr.alloc (.cells #[] 22)).alloc (.cells #[.int .i64 0, .int .i64 0, .slice none 0 0] 25)).drew := ((by repeat (first | exact Ext.refl _ | assumption | refine Ext.drew ?_ | refine Ext.alloc ?_ _)))
             have BZ : Blk ((wr.alloc (.cells #[] 22)).alloc (.cells #[.int .i64 0, .int .i64 0, .slice none 0 0] 25)).drew (wr.heap.size + 1) 25 #[.int .i64 0, .int .i64 0, .slice none 0 0] := (Blk.at_ (by simp)).ext (Ext.refl _).drew
             have hbz : wr.heap.size ≤ wr.heap.size + 1 := Nat.le_succ _
             replace hLit : ((wr.alloc (.cells #[] 22)).alloc (.cells #[.int .i64 0, .int .i64 0, .slice none 0 0] 25)).drew.ownsRow wr.heap.size 22 1 (.slice (some ⟨wr.heap.size, 0, none⟩) 0 0) 0 [] := ownsRow_ext (lit.out wr (Ext.refl wr)) ((Ext.refl _).alloc _).drew
             refine hK.out _ _ XZ (fun hHeld => ?_)
             clear hK K
             refine held_step 7 (by kernel_rfl) rfl (fun K hK => ?_)
             have hsz6 := Ext.size XZ
             refine step_append_at _ rfl (.tmp 35) (.tmp 37) 23 rfl wr.heap.size 22 i0 (.int .u64 0) 1 8 Try.underlying23 hi hz0 hz1 hz2 rfl (by decide) (.slice (some ⟨wr.heap.size, 0, none⟩) 0 0) 0 [] (by simp [Act.eval]) hLit ⟨bn, on, none⟩ N cap (ns.map (Value.int .u64)) (by simp [Act.eval]) hnm.out (news.out _ XZ) ones.out (by simp only [maxLen]; omega) (by omega) hsz6 ?_
             intro v6 w6 hown6 hgrow6 hat6
             rw [Nat.zero_add, List.nil_append] at hown6
             have Hown6 := hid hown6
             have X6 : Ext wr w6 := Ext.grown XZ hgrow6 (fun k e => (hLit.lt k e).1)
             replace BZ := BZ.grown hgrow6 (by rcases ownsRow_blk hLit BZ (by decide) with e | e <;> first | (rw [e]; simp; done) | exact e)
             obtain ⟨a6, c6, rfl, -, -, -, KS6⟩ := own_slice hown6
             obtain ⟨g6, rfl, -, -, -⟩ := KS6 hNp
             clear hown6 hgrow6 hat6 KS6
             refine hK.out _ _ X6 (fun hHeld => ?_)
             clear hK K
             refine wpAnyH_take (i := 8) (v := .agg #[.int .i64 (r : Int), .int .i64 (r : Int), .slice (some ⟨g6, 0, none⟩) N c6]) rfl (by kernel_rfl) (by kernel_rfl) (by kernel_rfl) (fun _ _ _ h => h) (Or.inl ⟨by rfl, ?_⟩) hHeld ?_
             · intro W' hSw
               go_simp
             refine held_step 10 (by kernel_rfl) rfl (fun K hK => ?_)
             obtain ⟨y0, y1, y2⟩ := BZ.at3
             have yf0 := BZ.frozen 0
             have yf1 := BZ.frozen 1
             have yf2 := BZ.frozen 2
             go_simp
             have XF := ((X6.setCell (p := ⟨wr.heap.size + 1, 0, none⟩) hbz (.int .i64 (r : Int))).setCell (p := ⟨wr.heap.size + 1, 1, none⟩) hbz (.int .i64 (r : Int))).setCell (p := ⟨wr.heap.size + 1, 2, none⟩) hbz (.slice (some ⟨g6, 0, none⟩) N c6)
             refine hK.out _ _ XF (fun hHeld => ?_)
             clear hK K y0 y1 y2 yf0 yf1 yf2
             refine wpAnyH_done (by kernel_rfl) ?_ _
             go_wp2_with fail
             go_meet
             exact ⟨wr.heap.size + 1, g6, c6, rfl, hbz, own_set (own_set (own_set Hown6.out BZ (by decide) 0 (.int .i64 (r : Int))) (BZ.set_ 0 _) (by decide) 1 (.int .i64 (r : Int))) ((BZ.set_ 0 _).set_ 1 _) (by decide) 2 (.slice (some ⟨g6, 0, none⟩) N c6), ((BZ.set_ 0 (.int .i64 (r : Int))).set_ 1 (.int .i64 (r : Int))).set_ 2 (.slice (some ⟨g6, 0, none⟩) N c6), XF⟩
           exact AllReadyH.nil
         refine AllReadyH.cons rfl (fun K hK => ?_) ?_
         · go_simp
           have XZ : Ext wr (wr.alloc (.cells #[.int .i64 0, .int .i64 0, .slice none 0 0] 25)).drew := ((by repeat (first | exact Ext.refl _ | assumption | refine Ext.drew ?_ | refine Ext.alloc ?_ _)))
           have BZ : Blk (wr.alloc (.cells #[.int .i64 0, .int .i64 0, .slice none 0 0] 25)).drew (wr.heap.size) 25 #[.int .i64 0, .int .i64 0, .slice none 0 0] := (Blk.new _ _ _).ext (Ext.refl _).drew
           have hbz : wr.heap.size ≤ wr.heap.size := Nat.le_refl _
           refine hK.out _ _ XZ (fun hHeld => ?_)
           clear hK K
           refine held_step 4 (by kernel_rfl) rfl (fun K hK => ?_)
           go_simp
           have XL : Ext wr ((wr.alloc (.cells #[.int .i64 0, .int .i64 0, .slice none 0 0] 25)).alloc (.cells #[] 22)).drew := ((by repeat (first | exact Ext.refl _ | refine Ext.drew ?_ | refine Ext.alloc ?_ _)))
           have hLit : ((wr.alloc (.cells #[.int .i64 0, .int .i64 0, .slice none 0 0] 25)).alloc (.cells #[] 22)).drew.ownsRow wr.heap.size 22 1 (.slice (some ⟨wr.heap.size + 1, 0, none⟩) 0 0) 0 [] := by
             have h := lit.out (wr.alloc (.cells #[.int .i64 0, .int .i64 0, .slice none 0 0] 25)) ((Ext.refl wr).alloc _)
             rw [alloc_size] at h
             exact ownsRow_ext h (Ext.refl _).drew
           refine hK.out _ _ XL (fun hHeld => ?_)
           clear hK K
           replace BZ : Blk ((wr.alloc (.cells #[.int .i64 0, .int .i64 0, .slice none 0 0] 25)).alloc (.cells #[] 22)).drew wr.heap.size 25 #[.int .i64 0, .int .i64 0, .slice none 0 0] := ((Blk.new wr _ _).ext ((Ext.refl _).alloc _)).ext (Ext.refl _).drew
           refine held_step 7 (by kernel_rfl) rfl (fun K hK => ?_)
           have hsz6 := Ext.size XL
           refine step_append_at _ rfl (.tmp 35) (.tmp 37) 23 rfl wr.heap.size 22 i0 (.int .u64 0) 1 8 Try.underlying23 hi hz0 hz1 hz2 rfl (by decide) (.slice (some ⟨wr.heap.size + 1, 0, none⟩) 0 0) 0 [] (by simp [Act.eval]) hLit ⟨bn, on, none⟩ N cap (ns.map (Value.int .u64)) (by simp [Act.eval]) hnm.out (news.out _ XL) ones.out (by simp only [maxLen]; omega) (by omega) hsz6 ?_
           intro v6 w6 hown6 hgrow6 hat6
           rw [Nat.zero_add, List.nil_append] at hown6
           have Hown6 := hid hown6
           have X6 : Ext wr w6 := Ext.grown XL hgrow6 (fun k e => (hLit.lt k e).1)
           replace BZ := BZ.grown hgrow6 (by rcases ownsRow_blk hLit BZ (by decide) with e | e <;> first | (rw [e]; simp; done) | exact e)
           obtain ⟨a6, c6, rfl, -, -, -, KS6⟩ := own_slice hown6
           obtain ⟨g6, rfl, -, -, -⟩ := KS6 hNp
           clear hown6 hgrow6 hat6 KS6
           refine hK.out _ _ X6 (fun hHeld => ?_)
           clear hK K
           refine wpAnyH_take (i := 8) (v := .agg #[.int .i64 (r : Int), .int .i64 (r : Int), .slice (some ⟨g6, 0, none⟩) N c6]) rfl (by kernel_rfl) (by kernel_rfl) (by kernel_rfl) (fun _ _ _ h => h) (Or.inl ⟨by rfl, ?_⟩) hHeld ?_
           · intro W' hSw
             go_simp
           refine held_step 10 (by kernel_rfl) rfl (fun K hK => ?_)
           obtain ⟨y0, y1, y2⟩ := BZ.at3
           have yf0 := BZ.frozen 0
           have yf1 := BZ.frozen 1
           have yf2 := BZ.frozen 2
           go_simp
           have XF := ((X6.setCell (p := ⟨wr.heap.size, 0, none⟩) hbz (.int .i64 (r : Int))).setCell (p := ⟨wr.heap.size, 1, none⟩) hbz (.int .i64 (r : Int))).setCell (p := ⟨wr.heap.size, 2, none⟩) hbz (.slice (some ⟨g6, 0, none⟩) N c6)
           refine hK.out _ _ XF (fun hHeld => ?_)
           clear hK K y0 y1 y2 yf0 yf1 yf2
           refine wpAnyH_done (by kernel_rfl) ?_ _
           go_wp2_with fail
           go_meet
           exact ⟨wr.heap.size, g6, c6, rfl, hbz, own_set (own_set (own_set Hown6.out BZ (by decide) 0 (.int .i64 (r : Int))) (BZ.set_ 0 _) (by decide) 1 (.int .i64 (r : Int))) ((BZ.set_ 0 _).set_ 1 _) (by decide) 2 (.slice (some ⟨g6, 0, none⟩) N c6), ((BZ.set_ 0 (.int .i64 (r : Int))).set_ 1 (.int .i64 (r : Int))).set_ 2 (.slice (some ⟨g6, 0, none⟩) N c6), XF⟩
         exact AllReadyH.nil
        case rest =>
         rename World => wA
         obtain ⟨g7, g6, c6, rfl, hg7, hown6, hbox, hx6⟩ := hcut
         obtain ⟨a6, k6, e6, hca, hcb, -, hq6⟩ := WRow.of_owns hown6
         injection e6 with e61 e62 e63
         obtain ⟨g, eg, hge, hW⟩ := hq6 hNp
         rw [← e61] at eg
         injection eg with eg
         injection eg with eg
         subst eg; subst e63
         have hne : g7 ≠ g6 := fun e => by
           have h1 := hbox.cell 0
           have h2 := (hW.2 0 (by rw [HN.out]; exact hNp)).1
           rw [e] at h1
           rw [Nat.add_zero, h1] at h2
           simp at h2
         have hW0 := hid (show WRow wA g6 0 (colTo r ns b k 0) by rw [colTo_zero k (by rw [HN.out, Hnl.out])]; exact hW)
         clear hq6 hW e61 e62 hown6 news ones hnm lit CF
         go_wp2_with fail
         go_loopw [12] (fun iv wi => ∃ i : Nat, iv = .int .i64 i ∧ i ≤ r ∧ Hid (WRow wi g6 0 (colTo r ns b k i)) ∧ Hid (Blk wi g7 25 #[.int .i64 (r : Int), .int .i64 (r : Int), .slice (some ⟨g6, 0, none⟩) N c6]) ∧ Ext wr wi) (fun iv _ => r - (intOf iv).toNat)
         case atStart => exact ⟨0, rfl, Nat.zero_le _, hW0, hid hbox, hx6⟩
         case round =>
           clear hW0 hbox hx6
           obtain ⟨i, rfl, hi', HW, HBX, hxi⟩ := hrel
           rename World => wi
           obtain ⟨c0, c1, c2⟩ := (HB.out.ext (hxr.out.trans hxi)).at3
           by_cases hli : i < r
           · obtain ⟨bb, ob, rfl, hbb, kcb⟩ := K3'.out (by omega)
             have hat := at_lt (r := r) hli hlt
             obtain ⟨q, hq⟩ : ∃ q, i * r = q := ⟨_, rfl⟩
             rw [hq, ← Hnl.out] at hat
             obtain ⟨t, ht⟩ : ∃ t, q + k = t := ⟨_, rfl⟩
             rw [ht] at hat
             have hset := hid (colTo_succ (r := r) (ns := ns) (b := b) hlt hli)
             rw [hq, ht] at hset
             have hqi : (i : Int) * (r : Int) = (q : Int) := by rw [← hq]; push_cast; rfl
             have w1 := hqi
             have w2 : (q : Int) + (k : Int) = (t : Int) := by omega
             have hcbv := kcb i hli
             obtain ⟨y, ey⟩ : ∃ y, b.getD i 0 = y := ⟨_, rfl⟩
             rw [ey] at hcbv hset
             have W1 := hid w1; have W2 := hid w2; have HCB := hid hcbv
             have hq6 : q ≤ 1000000 := by omega
             have ht6 : t ≤ 1000000 := by omega
             have HQ6 : Hid (q ≤ 1000000) := hid hq6
             have HT6 : Hid (t ≤ 1000000) := hid ht6
             clear hq6 ht6
             have hg6r : wr.heap.size ≤ g6 := hge
             have hwl : w.heap.size < wr.heap.size := Nat.lt_of_lt_of_le HB.out.lt hxr.out.size
             have hbw : bb < wr.heap.size := Nat.lt_of_lt_of_le hbb hxw.out.size
             have CF := hid fun (W' : World) (hS : wi.grownBy W' (some g6)) => (show W'.cell? ⟨w.heap.size, 1, none⟩ = some (.int .i64 (r : Int)) ∧ W'.cell? ⟨g7, 2, none⟩ = some (.slice (some ⟨g6, 0, none⟩) N c6) ∧ W'.cell? ⟨bb, ob + i, none⟩ = some (.int .u64 y) from by
               have hs := hxi.size
               exact ⟨(grown_cell' hS (by omega) (by omega)).trans ((HB.out.ext (hxr.out.trans hxi)).cell 1), (grown_cell' hS HBX.out.lt hne).trans (HBX.out.cell 2), (grown_cell' hS (by omega) (by omega)).trans (((hxw.out.trans hxi).cells _ _ hbb).trans HCB.out)⟩)
             have HT := hid hat
             clear hcbv kcb ey hqi hq ht w1 w2
             go_upto_region 12 with fail
             clear c0 c1 c2
             refine wp_region_held_drew (S := fun W' => wi.grownBy W' (some g6)) hmx (ext_grownBy (Ext.refl wi).drew) (fun hHeld => ?_)
             refine wpAnyH_take (i := 0) (v := .pointer (some ⟨g7, 2, none⟩)) rfl (by kernel_rfl) (by kernel_rfl) (by kernel_rfl) (fun _ _ _ h => h) (Or.inl ⟨by rfl, ?_⟩) hHeld ?_
             · intro W' hSw
               skip
               go_simp
             refine wpAnyH_take (i := 1) (v := .slice (some ⟨g6, 0, none⟩) N c6) rfl (by kernel_rfl) (by kernel_rfl) (by kernel_rfl) (fun _ _ _ h => h) (Or.inl ⟨by rfl, ?_⟩) hHeld ?_
             · intro W' hSw
               have q1 := (CF.out W' hSw).2.1
               go_simp
             refine wpAnyH_take (i := 2) (v := .int .i64 (i : Int)) rfl (by kernel_rfl) (by kernel_rfl) (by kernel_rfl) (fun _ _ _ h => h) (Or.inl ⟨by rfl, ?_⟩) hHeld ?_
             · intro W' hSw
               skip
               go_simp
             refine wpAnyH_take (i := 3) (v := .pointer (some ⟨w.heap.size, 1, none⟩)) rfl (by kernel_rfl) (by kernel_rfl) (by kernel_rfl) (fun _ _ _ h => h) (Or.inl ⟨by rfl, ?_⟩) hHeld ?_
             · intro W' hSw
               skip
               go_simp
             refine wpAnyH_take (i := 4) (v := .int .i64 (r : Int)) rfl (by kernel_rfl) (by kernel_rfl) (by kernel_rfl) (fun _ _ _ h => h) (Or.inl ⟨by rfl, ?_⟩) hHeld ?_
             · intro W' hSw
               have q0 := (CF.out W' hSw).1
               go_simp
             refine wpAnyH_take (i := 5) (v := .int .i64 (q : Int)) rfl (by kernel_rfl) (by kernel_rfl) (by kernel_rfl) (fun _ _ _ h => h) (Or.inl ⟨by rfl, ?_⟩) hHeld ?_
             · intro W' hSw
               have v1 := W1.out
               go_simp
               exact wrap_small q HQ6.out
             refine wpAnyH_take (i := 6) (v := .int .i64 (k : Int)) rfl (by kernel_rfl) (by kernel_rfl) (by kernel_rfl) (fun _ _ _ h => h) (Or.inl ⟨by rfl, ?_⟩) hHeld ?_
             · intro W' hSw
               skip
               go_simp
             refine wpAnyH_take (i := 7) (v := .int .i64 (t : Int)) rfl (by kernel_rfl) (by kernel_rfl) (by kernel_rfl) (fun _ _ _ h => h) (Or.inl ⟨by rfl, ?_⟩) hHeld ?_
             · intro W' hSw
               have v2 := W2.out
               go_simp
               exact wrap_small t HT6.out
             refine wpAnyH_take (i := 8) (v := .slice (some ⟨bb, ob, none⟩) r cap') rfl (by kernel_rfl) (by kernel_rfl) (by kernel_rfl) (fun _ _ _ h => h) (Or.inl ⟨by rfl, ?_⟩) hHeld ?_
             · intro W' hSw
               skip
               go_simp
             refine wpAnyH_take (i := 9) (v := .int .i64 (i : Int)) rfl (by kernel_rfl) (by kernel_rfl) (by kernel_rfl) (fun _ _ _ h => h) (Or.inl ⟨by rfl, ?_⟩) hHeld ?_
             · intro W' hSw
               skip
               go_simp
             refine wpAnyH_take (i := 10) (v := .pointer (some ⟨bb, ob + i, none⟩)) rfl (by kernel_rfl) (by kernel_rfl) (by kernel_rfl) (fun _ _ _ h => h) (Or.inl ⟨by rfl, ?_⟩) hHeld ?_
             · intro W' hSw
               skip
               go_simp
             refine wpAnyH_take (i := 11) (v := .int .u64 y) rfl (by kernel_rfl) (by kernel_rfl) (by kernel_rfl) (fun _ _ _ h => h) (Or.inl ⟨by rfl, ?_⟩) hHeld ?_
             · intro W' hSw
               have q2 := (CF.out W' hSw).2.2
               go_simp
             refine wpAnyH_take (i := 12) (v := .pointer (some ⟨g6, t, none⟩)) rfl (by kernel_rfl) (by kernel_rfl) (by kernel_rfl) (fun _ _ _ h => h) (Or.inl ⟨by rfl, ?_⟩) hHeld ?_
             · intro W' hSw
               have v3 := HT.out
               go_simp
             refine held_step 13 (by kernel_rfl) rfl (fun K hK => ?_)
             have hr7 := HW.out.ext ((Ext.refl wi).drew)
             have hcl : (colTo r ns b k i).length = N := by rw [colTo, tab_len, Hnl.out]
             have hr7c := (hr7.2 t (by rw [hcl]; exact HT.out)).1
             have hr7f := (hr7.2 t (by rw [hcl]; exact HT.out)).2
             rw [Nat.zero_add] at hr7c hr7f
             have hsetw := hid (hr7.set_ (i := t) (by rw [hcl]; exact HT.out) y)
             rw [Nat.zero_add, hset.out] at hsetw
             clear hcl
             go_simp
             have hfin : wi.grownBy (wi.drew.setCell ⟨g6, t, none⟩ (.int .u64 y)) (some g6) := (ext_grownBy (Ext.refl wi).drew).trans (setCell_grown _ _ _)
             refine hK.out _ _ hfin (fun hHeld => ?_)
             clear hK K
             refine wpAnyH_done (by kernel_rfl) ?_ _
             have hbx7 := hid (HBX.out.grown hfin (fun e => by injection e with e; omega))
             have hx7 := hxi.grown hfin (fun q e => by injection e with e; omega)
             clear hr7 hr7c hr7f CF
             go_wp2_with fail
             go_roundw
             case rel => exact ⟨i + 1, by go_num, by omega, hsetw, hbx7, hx7⟩
             case measure => simp [intOf]; omega
           · obtain rfl : r = i := by omega
             obtain ⟨e0, e1, e2⟩ := HBX.out.at3
             have hcl : (colTo r ns b k r).length = r * r := by rw [colTo, tab_len]
             have hcI := HW.out.ints' (n := N) (by rw [hcl, Hnl.out]) hca hcb
             have hcR := colTo_rng (r := r) (k := k) (i := r) hp2.1 Hn.out Hb.out
             obtain ⟨dk, edk, dk0, dk1⟩ := name_mod (p := p) (detF r (atF r (colTo r ns b k r))) hp2.1
             have CE2 := hid (edk ▸ CE.out wi (.slice (some ⟨g6, 0, none⟩) N c6) (colTo r ns b k r) hcI hcR hcl)
             have hFk := HF.out k
             rw [← colTo_all, edk] at hFk
             have hfr := mod_range (dk * z) hp2.1
             rw [hFk] at hfr
             obtain ⟨f, ef⟩ : ∃ f, F k = f := ⟨_, rfl⟩
             rw [ef] at hFk hfr
             have CM := hid fun (W : World) => rMul p dk z f W HP.out dk0 dk1 hzr.1 (by omega) hFk
             have happ := hid (show ((tab k F).map (Value.int .u64)) ++ [Value.int .u64 f] = (tab (k + 1) F).map (Value.int .u64) by rw [tab_succ, List.map_append, ef]; rfl)
             clear hcI hcR hcl edk hFk ef
             go_wp2_with (first
               | (go_at_call 115; refine CE2.out.mono ?_; rintro _ w9 ⟨rfl, x8⟩
                  have x89 := hid (hxi.trans x8)
                  have hs9 := x89.out.size)
               | (go_at_call 86; refine (CM.out _).mono ?_; rintro _ _ ⟨rfl, rfl⟩)
               | (at_builtin; refine wpList_append_own _ rfl _ _ 23 rfl w3.heap.size 22 i0 (.int .u64 0) 1 8 Try.underlying23 hi hz0 hz1 hz2 rfl (by decide) _ _ _ rfl (ownsRow_ext hown.out (x89.out.alloc (.cells #[.int .u64 f] 22))) ⟨w9.heap.size, 0, none⟩ 1 1 [.int .u64 f] rfl rfl (cells_new _ _ _ rfl) (by simp [Value.oneCell']) (by simp only [maxLen]; omega) (by omega) (by simp; omega) ?_; intro v' w10 hown10 hgrow10 hnil10)
               | fail)
             go_roundw
             case rel => exact ⟨k + 1, by go_num, by omega, hid (by rw [← happ.out]; exact hown10), hid ((hxr.out.trans (x89.out.alloc _)).grown hgrow10 (fun t e => (hown.out.lt t e).1))⟩
             case measure => simp [intOf]; omega
      · obtain rfl : r = k := by omega
        obtain ⟨ao, co, rfl, -, -, -, -⟩ := own_slice hown.out
        have hI := hid (own_ints hown.out)
        go_wp2_with fail
        go_ret
        exact ⟨_, rfl, hI.out, X3.out.trans hxr.out⟩
end Go.Proofs.Ytfpmcajndgkgeaa
/- The document's own answers of layer 8: what they ask of the matrix taken apart, of its core, and of determinants. -/
namespace Go.Proofs.Ytfpmcajndgkgeaa
open Go.RowKit Go.Maps

theorem mapZ_get (l : List Nat) (k : Nat) : (l.map fun k : Nat => (k : Int)).getD k 0 = ((l.getD k 0 : Nat) : Int) := by
  simp only [List.getD, List.getElem?_map]
  cases l[k]? <;> rfl
theorem r8CoreL (p : Int) (m n : Nat) (v rv cv Cv Uv : Value) (xs : List Int) (w : World) (ok : MatOk p m n xs) (hf : Fld p) (hv : Ints .u64 w v xs) (hR : Ints .i64 w rv (rowsZ (takeL p m n xs))) (hK : Ints .i64 w cv (colsZ (takeL p m n xs))) :
    Calls Try.prog 65 #[matV m n v, .agg #[rv, cv, Cv, Uv]] w (RetM (takeL p m n xs).U.length (takeL p m n xs).U.length (coreL p m n xs) w) := by
  have h := takeL_ok (m := m) (n := n) (rightB_true ok.hp).1 hf ok.hx
  have hle := h.le
  have hm := ok.hm
  have e : coreL p m n xs = grid (takeL p m n xs).U.length (takeL p m n xs).U.length fun i l => xs.getD (((rowsZ (takeL p m n xs)).getD i 0).toNat * n + ((colsZ (takeL p m n xs)).getD l 0).toNat) 0 := by
    unfold coreL rowsZ colsZ
    exact grid_congr fun i l _ _ => by rw [mapZ_get, mapZ_get, Int.toNat_natCast, Int.toNat_natCast]
  rw [e]
  refine r8Core m n _ v rv cv Cv Uv xs _ _ w hv hR hK ok.hm.2 ok.hn.2 (by omega) ok.hl (by simp [rowsZ, h.lr]) (by simp [colsZ, h.lk]) (fun i hi => ⟨_, mapZ_get _ _, h.low i (by rw [h.lr]; exact hi)⟩) fun i hi => ⟨_, mapZ_get _ _, (h.row i hi).2.2.1⟩
theorem ownB_rng {p : Int} {m n : Nat} {xs b : List Int} (hp : 2 ≤ p) (hb : Rng p b) : Rng p (ownB p m n xs b) := tab_rng fun _ _ => hb.getD hp _
theorem r8CramL (p : Int) (m n : Nat) (v u : Value) (xs b : List Int) (w : World) (ok : MatOk p m n xs) (hf : Fld p) (hv : Ints .u64 w v (coreL p m n xs)) (hu : Ints .u64 w u b) (hb : Rng p b) (hbl : b.length = (takeL p m n xs).U.length) :
    Calls Try.prog 64 #[.int .u64 p, matV (takeL p m n xs).U.length (takeL p m n xs).U.length v, u] w (RetL (crL p (takeL p m n xs).U.length (coreL p m n xs) b) w) := by
  have h := takeL_ok (m := m) (n := n) (rightB_true ok.hp).1 hf ok.hx
  have hle := h.le
  have hm := ok.hm
  exact r8Cramer p _ v u _ b w ok.hp hf hv hu (coreL_rng (rightB_true ok.hp).1 ok.hx) hb coreL_len hbl (by omega) (core_det (rightB_true ok.hp).1 hf ok.hx)
end Go.Proofs.Ytfpmcajndgkgeaa
/- The document's own answer of layer 8: Solve. -/
namespace Go.Proofs.Ytfpmcajndgkgeaa
open Go.RowKit Go.Maps

/-- what is told of a right side -/
noncomputable def solCode (p : Int) (m n : Nat) (xs b : List Int) : Int := if timesL p m n xs (solX p m n xs b) = b then 0 else 6
noncomputable def solTold (p : Int) (m n : Nat) (xs b : List Int) : List Int := if timesL p m n xs (solX p m n xs b) = b then solX p m n xs b else []
set_option maxRecDepth 100000 in
set_option maxHeartbeats 4000000 in
theorem r8Solve (p : Int) (m n : Nat) (v u : Value) (xs b : List Int) (w : World) (ok : MatOk p m n xs) (hf : Fld p) (hv : Ints .u64 w v xs) (hu : Ints .u64 w u b) (hbl : b.length = m) (hbr : Rng p b) :
    Calls Try.prog 18 #[.int .u64 p, matV m n v, u] w (RetE (solCode p m n xs b) (solTold p m n xs b) w) := by
  have hp2 := rightB_true ok.hp
  obtain ⟨i0, hi, hz0, hz1, hz2⟩ := info_parts info_u64p
  have hm := ok.hm; have hn := ok.hn
  have h := takeL_ok (m := m) (n := n) hp2.1 hf ok.hx
  have C1 := hid fun (W : World) (hW : Ext w W) => r7Take p m n v xs W ok hf (hv.ext hW)
  have C2 := hid fun (W : World) (rv cv Cv Uv : Value) (hW : Ext w W) (hR : Ints .i64 W rv (rowsZ (takeL p m n xs))) (hK : Ints .i64 W cv (colsZ (takeL p m n xs))) => r8CoreL p m n v rv cv Cv Uv xs W ok hf (hv.ext hW) hR hK
  have C3 := hid fun (W : World) (v' u' : Value) (hv' : Ints .u64 W v' (coreL p m n xs)) (hu' : Ints .u64 W u' (ownB p m n xs b)) => r8CramL p m n v' u' xs (ownB p m n xs b) W ok hf hv' hu' (ownB_rng hp2.1 hbr) (tab_len _ _)
  have C4 := hid fun (W : World) (u' : Value) (hW : Ext w W) (hu' : Ints .u64 W u' (solX p m n xs b)) => (show Calls Try.prog 38 #[.int .u64 p, matV m n v, u'] W (RetL (timesL p m n xs (solX p m n xs b)) W) from rmTimes p m n v u' xs (solX p m n xs b) W ok.hp (hv.ext hW) hu' ok.hx (solX_rng hp2.1) hm.2 hn.2 ok.hl solX_len)
  have C5 := hid fun (W : World) (a' u' : Value) (ys : List Int) (h1 : Ints .u64 W a' ys) (h2 : Ints .u64 W u' b) => same_any a' u' ys b W h1 h2
  have hr64 : (takeL p m n xs).U.length ≤ 64 := by have := h.le; omega
  have lR : (rowsZ (takeL p m n xs)).length = (takeL p m n xs).U.length := by simp [rowsZ, h.lr]
  have lK : (colsZ (takeL p m n xs)).length = (takeL p m n xs).U.length := by simp [colsZ, h.lk]
  have HRl := hid fun k (hk : k < (takeL p m n xs).U.length) => (show (rowsZ (takeL p m n xs)).getD k 0 = (((takeL p m n xs).rows.getD k 0 : Nat) : Int) ∧ (takeL p m n xs).rows.getD k 0 < m from ⟨mapZ_get _ _, h.low k (by rw [h.lr]; exact hk)⟩)
  have HKl := hid fun k (hk : k < (takeL p m n xs).U.length) => (show (colsZ (takeL p m n xs)).getD k 0 = (((takeL p m n xs).cols.getD k 0 : Nat) : Int) ∧ (takeL p m n xs).cols.getD k 0 < n from ⟨mapZ_get _ _, (h.row k hk).2.2.1⟩)
  obtain ⟨Z, eZ⟩ : ∃ Z, crL p (takeL p m n xs).U.length (coreL p m n xs) (ownB p m n xs b) = Z := ⟨_, rfl⟩
  have lZ : Z.length = (takeL p m n xs).U.length := by rw [← eZ]; exact crL_len _ _
  rw [eZ] at C3
  have hX : solX p m n xs b = setsL (List.replicate n 0) (takeL p m n xs).cols Z (takeL p m n xs).U.length := by rw [← eZ]; rfl
  have HX := hid hX
  have hob : ownB p m n xs b = tab (takeL p m n xs).U.length fun k => b.getD ((takeL p m n xs).rows.getD k 0) 0 := rfl
  obtain ⟨Gf, hG⟩ : ∃ Gf : Nat → Int, (fun k => b.getD ((takeL p m n xs).rows.getD k 0) 0) = Gf := ⟨_, rfl⟩
  have HG := hid fun k => (congrFun hG k : b.getD ((takeL p m n xs).rows.getD k 0) 0 = Gf k)
  rw [hG] at hob
  rw [hob] at C3
  obtain ⟨Rw, eR⟩ : ∃ Rw, rowsZ (takeL p m n xs) = Rw := ⟨_, rfl⟩
  rw [eR] at C1 C2 lR HRl
  obtain ⟨Kw, eK⟩ : ∃ Kw, colsZ (takeL p m n xs) = Kw := ⟨_, rfl⟩
  rw [eK] at C1 C2 lK HKl
  obtain ⟨rs, ers⟩ : ∃ rs, (takeL p m n xs).rows = rs := ⟨_, rfl⟩
  rw [ers] at HRl HG
  obtain ⟨cs, ecs⟩ : ∃ cs, (takeL p m n xs).cols = cs := ⟨_, rfl⟩
  rw [ecs] at HKl HX
  obtain ⟨r, er⟩ : ∃ r, (takeL p m n xs).U.length = r := ⟨_, rfl⟩
  rw [er] at C2 C3 hr64 lR lK HRl HKl lZ HX
  obtain ⟨co, eco⟩ : ∃ co, coreL p m n xs = co := ⟨_, rfl⟩
  rw [eco] at C2 C3
  unfold solCode solTold
  obtain ⟨X, eX⟩ : ∃ X, solX p m n xs b = X := ⟨_, rfl⟩
  rw [eX] at HX C4 ⊢
  obtain ⟨TX, eTX⟩ : ∃ TX, timesL p m n xs X = TX := ⟨_, rfl⟩
  rw [eTX] at C4 ⊢
  obtain ⟨Cd, eCd⟩ : ∃ Cd : Int, (if TX = b then 0 else 6) = Cd := ⟨_, rfl⟩
  obtain ⟨Ct, eCt⟩ : ∃ Ct : List Int, (if TX = b then X else []) = Ct := ⟨_, rfl⟩
  rw [eCd, eCt]
  have ECd := hid eCd; have ECt := hid eCt
  have lX : X.length = n := by rw [← eX]; exact solX_len
  have HU := hid hu
  obtain ⟨a, cap, rfl, k1, k2, k3⟩ := hv
  obtain ⟨ab, cb, rfl, m1, m2, m3⟩ := hu
  rw [hbl] at m1 m3 HU ⊢
  have M3 := hid m3
  have LX := hid lX; have LZ := hid lZ; have LR := hid lR; have LK := hid lK
  have hmk := make_ints (P := Try.prog) 23 22 .u64 8 (by omega) (by kernel_rfl) (by kernel_rfl) n n (Nat.le_refl _) (by omega)
  have hA := hid (Blk.new w 25 #[.int .i64 (m : Int), .int .i64 (n : Int), .slice a xs.length cap])
  obtain ⟨b0, b1, b2⟩ := hA.out.at3
  have hmx : Try.prog.follows .mixedOrders = true := by kernel_rfl
  unfold matV at C1 C2 C3 C4
  unfold matV
  clear k3 m3 ok hf h hX hob hG eR eK ers ecs er eco eX eTX eCd eCt lX lZ lR lK eZ hbr hbl
  go_enter Try.func18, Try.ntmps18
  go_wp2_with (first
    | (go_at_call 63; refine (C1.out _ (by repeat (first | exact Ext.refl _ | assumption | refine Ext.drew ?_ | refine Ext.drewN ?_ _ | refine Ext.alloc ?_ _ | refine Ext.trans ?_ (by assumption)))).mono ?_; rintro _ w2 ⟨rv, cv, a1, l1, q1, a2, l2, q2, rfl, h1, h2, x2⟩
       have H1 := hid h1; have H2 := hid h2
       obtain ⟨ar, cr, rfl, r1, r2, r3⟩ := h1
       obtain ⟨ak, ck, rfl, c1, c2, c3⟩ := h2
       rw [LR.out] at H1 r1 r3 ⊢
       rw [LK.out] at H2 c1 c3 ⊢
       have R3 := hid r3; have K3 := hid c3
       clear r3 c3))
  obtain ⟨w3, hw3⟩ : ∃ w3, w2.alloc (.cells #[.slice ar r cr, .slice ak r ck, .slice a1 l1 q1, .slice a2 l2 q2] 71) = w3 := ⟨_, rfl⟩
  have x3 : Ext w2 w3 := hw3 ▸ (Ext.refl w2).alloc _
  have hC3 : Blk w3 w2.heap.size 71 #[.slice ar r cr, .slice ak r ck, .slice a1 l1 q1, .slice a2 l2 q2] := hw3 ▸ Blk.new _ _ _
  have hX3 : Ext w w3 := Ext.trans (by repeat (first | exact Ext.refl _ | assumption | refine Ext.drew ?_ | refine Ext.drewN ?_ _ | refine Ext.alloc ?_ _ | refine Ext.trans ?_ (by assumption))) x3
  have X3 := hid hX3; have HC := hid hC3; have HA3 := hid ((hA.out.ext x2).ext x3)
  have R1 := hid (H1.out.ext x3); have K1 := hid (H2.out.ext x3)
  have hwT : w2.heap.size < w3.heap.size := hC3.lt
  have hwH : w.heap.size < w2.heap.size := by
    have h := x2.size
    simp at h; omega
  rw [hw3]
  obtain ⟨T, hT⟩ : ∃ T, w2.heap.size = T := ⟨_, rfl⟩
  rw [hT] at HC hwT hwH
  rw [hT]
  have hbR := hid fun i (hi : i < r) => (show ∃ b o, ar = some ⟨b, o, none⟩ ∧ b < w3.heap.size ∧ w3.cell? ⟨b, o + i, none⟩ = some (.int .i64 ((rs.getD i 0 : Nat) : Int)) from by
    obtain ⟨b', o', e, hb, hc⟩ := R3.out (by omega)
    have := hc i hi
    rw [(HRl.out i hi).1] at this
    exact ⟨b', o', e, Nat.lt_of_lt_of_le hb x3.size, (x3.cells _ _ hb).trans this⟩)
  have hbK := hid fun i (hi : i < r) => (show ∃ b o, ak = some ⟨b, o, none⟩ ∧ b < w3.heap.size ∧ w3.cell? ⟨b, o + i, none⟩ = some (.int .i64 ((cs.getD i 0 : Nat) : Int)) from by
    obtain ⟨b', o', e, hb, hc⟩ := K3.out (by omega)
    have := hc i hi
    rw [(HKl.out i hi).1] at this
    exact ⟨b', o', e, Nat.lt_of_lt_of_le hb x3.size, (x3.cells _ _ hb).trans this⟩)
  clear hw3 x3 hC3 hX3 C1 H1 H2 b0 b1 b2 hT hA
  go_loopw [11, 10] (fun iv ov wr => ∃ i : Nat, iv = .int .i64 i ∧ i ≤ r ∧ Hid (wr.ownsRow w3.heap.size 22 1 ov i ((tab i Gf).map (Value.int .u64))) ∧ Ext w3 wr) (fun iv _ _ => r - (intOf iv).toNat)
  case atStart => exact ⟨0, rfl, Nat.zero_le _, hid (World.ownsRow_nil _ _ _ _), Ext.refl _⟩
  case round =>
    obtain ⟨i, rfl, hi', hown, hxr⟩ := hrel
    have hsz := hxr.size
    have p0 := (HC.out.ext hxr).cell 0
    by_cases hlt : i < r
    · obtain ⟨br, orr, rfl, hbr, hcr⟩ := hbR.out i hlt
      have gr := (hxr.cells _ _ hbr).trans hcr
      have hcm := (HRl.out i hlt).2
      have hGi := HG.out i
      obtain ⟨c, ec⟩ : ∃ c, rs.getD i 0 = c := ⟨_, rfl⟩
      rw [ec] at gr hcm hGi
      obtain ⟨bb, ob, rfl, hbb, hcb⟩ := M3.out (by omega)
      have gb := ((X3.out.trans hxr).cells _ _ hbb).trans (hcb c hcm)
      rw [hGi] at gb
      have happ := hid (show ((tab i Gf).map (Value.int .u64)) ++ [Value.int .u64 (Gf i)] = (tab (i + 1) Gf).map (Value.int .u64) by rw [tab_succ, List.map_append]; rfl)
      obtain ⟨y, ey⟩ : ∃ y, Gf i = y := ⟨_, rfl⟩
      rw [ey] at gb happ
      clear hcr hcb ec ey hGi
      go_wp2_with (first | (at_builtin; refine wpList_append_own _ rfl _ _ 23 rfl w3.heap.size 22 i0 (.int .u64 0) 1 8 Try.underlying23 hi hz0 hz1 hz2 rfl (by decide) _ _ _ rfl (hown.out.alloc _) ⟨wr.heap.size, 0, none⟩ 1 1 [.int .u64 y] rfl rfl (cells_new _ _ _ (by simp)) (by simp [Value.oneCell']) (by simp only [maxLen]; omega) (by omega) (by simp; omega) ?_; intro v' w6 hown6 hgrow6 hnil6) | fail)
      go_roundw
      case rel => exact ⟨i + 1, by go_num, by omega, hid (by rw [← happ.out]; exact hown6), (hxr.alloc _).grown hgrow6 (fun t e => (hown.out.lt t e).1)⟩
      case measure => simp [intOf]; omega
    · obtain rfl : r = i := by omega
      obtain ⟨ao, co', rfl, -, hI⟩ := owns_ints hown.out
      have HI := hid hI
      have hA4 := HA3.out.ext hxr
      have hC4 := HC.out.ext hxr
      obtain ⟨b0, b1, b2⟩ := hA4.at3
      obtain ⟨p0, p1, p2, p3⟩ := hC4.at4
      clear hI hA4 hC4
      go_upto_region 9 with (first
        | (go_at_call 65; refine (C2.out _ _ _ _ _ (X3.out.trans hxr) (R1.out.ext hxr) (K1.out.ext hxr)).mono ?_; rintro _ w5 ⟨v5, rfl, hi5, x5⟩
           unfold matV
           have HI5 := hid hi5
           obtain ⟨a5, c5, rfl, -, -, -⟩ := hi5)
        | (go_at_call 64; refine (C3.out _ _ _ HI5.out (HI.out.ext x5)).mono ?_; rintro _ w6 ⟨v6, rfl, hi6, x6⟩
           have HI6 := hid hi6
           obtain ⟨a6, c6, rfl, z1, z2, z3⟩ := hi6
           rw [LZ.out] at HI6 z1 z3 ⊢
           have Z3 := hid z3
           have hA6 := HA3.out.ext ((hxr.trans x5).trans x6)
           obtain ⟨d0, d1, d2⟩ := hA6.at3
           clear hA6 z3))
      have hx36 : Ext w3 w6 := (hxr.trans x5).trans x6
      have HX36 := hid hx36
      obtain ⟨g, hg⟩ : ∃ g, w6.heap.size = g := ⟨_, rfl⟩
      have hW0 := hid (WRow.made (t := 22) (n := n) (w := w6) (g := g) hg.symm)
      have hs36 := hx36.size
      rw [hg] at hs36
      have HGW := hid hg
      rw [hg]
      clear b0 b1 b2 p0 p1 p2 p3 d0 d1 d2 hx36
      go_wp2_with fail
      go_loopw [14] (fun kv wl => ∃ k : Nat, kv = .int .i64 k ∧ k ≤ r ∧ Hid (WRow wl g 0 (setsL (List.replicate n 0) cs Z k)) ∧ Ext w6 wl) (fun kv _ => r - (intOf kv).toNat)
      case atStart => exact ⟨0, rfl, Nat.zero_le _, hW0, (Ext.refl _).alloc _⟩
      case round =>
        clear hW0
        obtain ⟨k, rfl, hk, HW, hxl⟩ := hrel
        rename World => wl
        have hC7 := HC.out.ext (HX36.out.trans hxl)
        have p1 := hC7.cell 1
        by_cases hlk : k < r
        · obtain ⟨bk, ok2, rfl, hbk, hck⟩ := hbK.out k hlk
          obtain ⟨bz, oz, rfl, hbz, hcz⟩ := Z3.out (by omega)
          have hcn := (HKl.out k hlk).2
          have hsets := hid (show setsL (List.replicate n 0) cs Z (k + 1) = (setsL (List.replicate n 0) cs Z k).set (cs.getD k 0) (Z.getD k 0) from rfl)
          have hzk := hcz k hlk
          obtain ⟨c, ec⟩ : ∃ c, cs.getD k 0 = c := ⟨_, rfl⟩
          rw [ec] at hck hcn hsets
          obtain ⟨y, ey⟩ : ∃ y, Z.getD k 0 = y := ⟨_, rfl⟩
          rw [ey] at hzk hsets
          have HCK := hid hck; have HZK := hid hzk
          have hgz : bz < g := by have := HGW.out; omega
          have hlz := hxl.size
          have CF := hid fun (W' : World) (hS : wl.grownBy W' (some g)) => (show W'.cell? ⟨T, 1, none⟩ = some (.slice (some ⟨bk, ok2, none⟩) r ck) ∧ W'.cell? ⟨bk, ok2 + k, none⟩ = some (.int .i64 (c : Int)) ∧ W'.cell? ⟨bz, oz + k, none⟩ = some (.int .u64 y) from by
            have hs := (HX36.out.trans hxl).size
            exact ⟨(grown_cell' hS (by omega) (by omega)).trans ((HC.out.ext (HX36.out.trans hxl)).cell 1), (grown_cell' hS (by omega) (by omega)).trans (((HX36.out.trans hxl).cells _ _ hbk).trans HCK.out), (grown_cell' hS (by omega) (by omega)).trans ((hxl.cells _ _ hbz).trans HZK.out)⟩)
          clear hck hzk hcz ec ey hC7
          go_upto_region 12 with fail
          clear p1
          refine wp_region_held_drew (S := fun W' => wl.grownBy W' (some g)) hmx (ext_grownBy (Ext.refl wl).drew) (fun hHeld => ?_)
          refine wpAnyH_take (i := 0) (v := .slice (some ⟨g, 0, none⟩) n n) rfl (by kernel_rfl) (by kernel_rfl) (by kernel_rfl) (fun _ _ _ h => h) (Or.inl ⟨by rfl, ?_⟩) hHeld ?_
          · intro W' hSw
            skip
            go_simp
          refine wpAnyH_take (i := 1) (v := .pointer (some ⟨T, 1, none⟩)) rfl (by kernel_rfl) (by kernel_rfl) (by kernel_rfl) (fun _ _ _ h => h) (Or.inl ⟨by rfl, ?_⟩) hHeld ?_
          · intro W' hSw
            skip
            go_simp
          refine wpAnyH_take (i := 2) (v := .slice (some ⟨bk, ok2, none⟩) r ck) rfl (by kernel_rfl) (by kernel_rfl) (by kernel_rfl) (fun _ _ _ h => h) (Or.inl ⟨by rfl, ?_⟩) hHeld ?_
          · intro W' hSw
            have q1 := (CF.out W' hSw).1
            go_simp
          refine wpAnyH_take (i := 3) (v := .int .i64 (k : Int)) rfl (by kernel_rfl) (by kernel_rfl) (by kernel_rfl) (fun _ _ _ h => h) (Or.inl ⟨by rfl, ?_⟩) hHeld ?_
          · intro W' hSw
            skip
            go_simp
          refine wpAnyH_take (i := 4) (v := .pointer (some ⟨bk, ok2 + k, none⟩)) rfl (by kernel_rfl) (by kernel_rfl) (by kernel_rfl) (fun _ _ _ h => h) (Or.inl ⟨by rfl, ?_⟩) hHeld ?_
          · intro W' hSw
            skip
            go_simp
          refine wpAnyH_take (i := 5) (v := .int .i64 (c : Int)) rfl (by kernel_rfl) (by kernel_rfl) (by kernel_rfl) (fun _ _ _ h => h) (Or.inl ⟨by rfl, ?_⟩) hHeld ?_
          · intro W' hSw
            have q2 := (CF.out W' hSw).2.1
            go_simp
          refine wpAnyH_take (i := 6) (v := .slice (some ⟨bz, oz, none⟩) r c6) rfl (by kernel_rfl) (by kernel_rfl) (by kernel_rfl) (fun _ _ _ h => h) (Or.inl ⟨by rfl, ?_⟩) hHeld ?_
          · intro W' hSw
            skip
            go_simp
          refine wpAnyH_take (i := 7) (v := .int .i64 (k : Int)) rfl (by kernel_rfl) (by kernel_rfl) (by kernel_rfl) (fun _ _ _ h => h) (Or.inl ⟨by rfl, ?_⟩) hHeld ?_
          · intro W' hSw
            skip
            go_simp
          refine wpAnyH_take (i := 8) (v := .pointer (some ⟨bz, oz + k, none⟩)) rfl (by kernel_rfl) (by kernel_rfl) (by kernel_rfl) (fun _ _ _ h => h) (Or.inl ⟨by rfl, ?_⟩) hHeld ?_
          · intro W' hSw
            skip
            go_simp
          refine wpAnyH_take (i := 9) (v := .int .u64 y) rfl (by kernel_rfl) (by kernel_rfl) (by kernel_rfl) (fun _ _ _ h => h) (Or.inl ⟨by rfl, ?_⟩) hHeld ?_
          · intro W' hSw
            have q3 := (CF.out W' hSw).2.2
            go_simp
          refine wpAnyH_take (i := 10) (v := .pointer (some ⟨g, c, none⟩)) rfl (by kernel_rfl) (by kernel_rfl) (by kernel_rfl) (fun _ _ _ h => h) (Or.inl ⟨by rfl, ?_⟩) hHeld ?_
          · intro W' hSw
            skip
            go_simp
          refine held_step 11 (by kernel_rfl) rfl (fun K hK => ?_)
          have hl7 : (setsL (List.replicate n 0) cs Z k).length = n := by rw [setsL_len, List.length_replicate]
          have hr7 := HW.out.ext ((Ext.refl wl).drew)
          have hr7c := (hr7.2 c (by rw [hl7]; exact hcn)).1
          have hr7f := (hr7.2 c (by rw [hl7]; exact hcn)).2
          rw [Nat.zero_add] at hr7c hr7f
          have hsw := hid (hr7.set_ (i := c) (by rw [hl7]; exact hcn) y)
          rw [Nat.zero_add, ← hsets.out] at hsw
          clear hl7
          go_simp
          have hfin : wl.grownBy (wl.drew.setCell ⟨g, c, none⟩ (.int .u64 y)) (some g) := (ext_grownBy (Ext.refl wl).drew).trans (setCell_grown _ _ _)
          refine hK.out _ _ hfin (fun hHeld => ?_)
          clear hK K
          refine wpAnyH_done (by kernel_rfl) ?_ _
          have hx9 : Ext w6 (wl.drew.setCell ⟨g, c, none⟩ (.int .u64 y)) := hxl.grown hfin (fun q e => by injection e with e; have := HGW.out; omega)
          clear hr7 hr7c hr7f CF
          go_wp2_with fail
          go_roundw
          case rel => exact ⟨k + 1, by go_num, by omega, hsw, hx9⟩
          case measure => simp [intOf]; omega
        · obtain rfl : r = k := by omega
          have hXr := HW.out
          rw [← HX.out] at hXr
          have hXI := hid (hXr.ints' LX.out (Nat.le_refl n) (by omega))
          have hX0 := hid ((X3.out.trans HX36.out).trans hxl)
          have hA8 := HA3.out.ext (HX36.out.trans hxl)
          obtain ⟨d0, d1, d2⟩ := hA8.at3
          clear hA8 hXr
          have CT := hid (C4.out wl _ hX0.out hXI.out)
          have CS := hid fun (W : World) (a' : Value) (hW : Ext w W) (h1 : Ints .u64 W a' TX) => C5.out W a' _ TX h1 (HU.out.ext hW)
          by_cases e : TX = b
          · rw [decide_eq_true e] at CS
            have e1 := ECd.out
            have e2 := ECt.out
            rw [if_pos e] at e1 e2
            have E1 := hid e1; have E2 := hid e2
            clear e e1 e2
            go_wp2_with (first
              | (go_at_call 38; refine CT.out.mono ?_; rintro _ w8 ⟨v8, rfl, hi8, x8⟩
                 have HI8 := hid hi8
                 obtain ⟨a8, c8, rfl, -, -, -⟩ := hi8)
              | (go_at_call 20; refine (CS.out _ _ (hX0.out.trans x8) HI8.out).mono ?_; rintro _ w9 ⟨rfl, x9⟩))
            go_ret2
            obtain rfl := E1.out
            obtain rfl := E2.out
            exact ⟨_, rfl, hXI.out.ext (x8.trans x9), (hX0.out.trans x8).trans x9⟩
          · rw [decide_eq_false e] at CS
            have e1 := ECd.out
            have e2 := ECt.out
            rw [if_neg e] at e1 e2
            have E1 := hid e1; have E2 := hid e2
            clear e e1 e2
            go_wp2_with (first
              | (go_at_call 38; refine CT.out.mono ?_; rintro _ w8 ⟨v8, rfl, hi8, x8⟩
                 have HI8 := hid hi8
                 obtain ⟨a8, c8, rfl, -, -, -⟩ := hi8)
              | (go_at_call 20; refine (CS.out _ _ (hX0.out.trans x8) HI8.out).mono ?_; rintro _ w9 ⟨rfl, x9⟩))
            go_ret2
            obtain rfl := E1.out
            obtain rfl := E2.out
            exact ⟨_, rfl, Ints.nil, (hX0.out.trans x8).trans x9⟩
end Go.Proofs.Ytfpmcajndgkgeaa
/- The document's own answer of layer 8: Kernel. -/
namespace Go.Proofs.Ytfpmcajndgkgeaa
open Go.RowKit Go.Maps

theorem made_cellsR (n : Nat) : (madeCells #[Value.int .u64 0] n) = ((List.replicate n 0).map (Value.int .u64)).toArray := by
  simp [madeCells]
  apply Array.ext
  · simp
  · intro i h1 h2
    simp [Nat.mod_one]
theorem made_getR {n i : Nat} (hi : i < n) : (madeCells #[Value.int .u64 0] n)[i]? = some (.int .u64 0) := by rw [made_cellsR]; simp [hi]
theorem WRow.made1R {w : World} {t : TypeId} {g n i : Nat} (hg : g = w.heap.size) : WRow (w.alloc (.cells ((madeCells #[Value.int .u64 0] n).setIfInBounds i (.int .u64 1)) t)) g 0 ((List.replicate n 0).set i 1) := by
  subst hg
  refine WRow.of_blk (t := t) (rest := []) ?_
  have e : (madeCells #[Value.int .u64 0] n).setIfInBounds i (.int .u64 1) = ((((List.replicate n (0 : Int)).set i 1).map (Value.int .u64)) ++ []).toArray := by
    rw [made_cellsR, List.append_nil, List.map_set, List.setIfInBounds_toArray]
  rw [← e]
  exact Blk.new w t _
theorem findZ_cols {l : List Nat} {f : Nat} : 0 ≤ findZ (l.map fun k : Nat => (k : Int)) (f : Int) ↔ f ∈ l := by
  rw [findZ_mem]
  refine List.mem_map.trans ⟨?_, fun h => ⟨f, h, rfl⟩⟩
  rintro ⟨a, h, e⟩
  obtain rfl : a = f := by omega
  exact h
theorem neg_rng {p : Int} (hp : 2 ≤ p) {r : Nat} (g : Nat → Int) : Rng p (tab r fun k => (0 - g k) % p) := tab_rng fun _ _ => mod_range _ hp
set_option maxRecDepth 100000 in
set_option maxHeartbeats 4000000 in
theorem r8Kernel (p : Int) (m n : Nat) (v : Value) (xs : List Int) (w : World) (ok : MatOk p m n xs) (hf : Fld p) (hv : Ints .u64 w v xs) (hr0 : freeC n (takeL p m n xs).cols < n) :
    Calls Try.prog 21 #[.int .u64 p, matV m n v] w (RetE 0 (solK p m n xs) w) := by
  have hp2 := rightB_true ok.hp
  obtain ⟨i0, hi, hz0, hz1, hz2⟩ := info_parts info_u64p
  have hm := ok.hm; have hn := ok.hn
  have h := takeL_ok (m := m) (n := n) hp2.1 hf ok.hx
  have C1 := hid fun (W : World) (hW : Ext w W) => r7Take p m n v xs W ok hf (hv.ext hW)
  have C2 := hid fun (W : World) (rv cv Cv Uv : Value) (hW : Ext w W) (hR : Ints .i64 W rv (rowsZ (takeL p m n xs))) (hK : Ints .i64 W cv (colsZ (takeL p m n xs))) => r8CoreL p m n v rv cv Cv Uv xs W ok hf (hv.ext hW) hR hK
  have C3 := hid fun (W : World) (v' u' : Value) (hv' : Ints .u64 W v' (coreL p m n xs)) (hu' : Ints .u64 W u' (ownK p m n xs)) => r8CramL p m n v' u' xs (ownK p m n xs) W ok hf hv' hu' (neg_rng hp2.1 _) (tab_len _ _)
  obtain ⟨F, eF⟩ : ∃ F, freeC n (takeL p m n xs).cols = F := ⟨_, rfl⟩
  have hFl := hid fun j (hj : j < F) => (show 0 ≤ findZ (colsZ (takeL p m n xs)) (j : Int) from findZ_cols.2 (freeC_low (n := n) (by rw [eF]; exact hj)))
  have hFn := hid (show ¬ 0 ≤ findZ (colsZ (takeL p m n xs)) (F : Int) from fun h => freeC_not hr0 (by rw [eF]; exact findZ_cols.1 h))
  rw [eF] at hr0
  have CF6 := hid fun (W : World) (rv : Value) (x : Int) (h : Ints .i64 W rv (colsZ (takeL p m n xs))) => r6Find rv (colsZ (takeL p m n xs)) x W h
  have CAt := hid fun (i : Nat) (hi : i < (takeL p m n xs).U.length) => (show ∃ y, (∀ W, Ext w W → Calls Try.prog 33 #[matV m n v, .int .i64 (((takeL p m n xs).rows.getD i 0 : Nat) : Int), .int .i64 (F : Int)] W (Ret (.int .u64 y) W)) ∧ ∀ W, Calls Try.prog 32 #[.int .u64 p, .int .u64 0, .int .u64 y] W fun e w' => e = .returned (.int .u64 ((0 - xs.getD ((takeL p m n xs).rows.getD i 0 * n + F) 0) % p)) ∧ W = w' from by
    have hlow := h.low i (by rw [h.lr]; exact hi)
    have hg := ok.hx.getD hp2.1 ((takeL p m n xs).rows.getD i 0 * n + F)
    exact ⟨_, fun W hW => rmAt m n v xs _ F n W (hv.ext hW) rfl (by omega) (by omega) (by omega) (by rw [ok.hl]; exact at_lt hlow hr0), fun W => rSub p 0 _ _ W ok.hp (by omega) (by omega) hg.1 hg.2 rfl⟩)
  have hr64 : (takeL p m n xs).U.length ≤ 64 := by have := h.le; omega
  have lR : (rowsZ (takeL p m n xs)).length = (takeL p m n xs).U.length := by simp [rowsZ, h.lr]
  have lK : (colsZ (takeL p m n xs)).length = (takeL p m n xs).U.length := by simp [colsZ, h.lk]
  have HRl := hid fun k (hk : k < (takeL p m n xs).U.length) => (show (rowsZ (takeL p m n xs)).getD k 0 = (((takeL p m n xs).rows.getD k 0 : Nat) : Int) ∧ (takeL p m n xs).rows.getD k 0 < m from ⟨mapZ_get _ _, h.low k (by rw [h.lr]; exact hk)⟩)
  have HKl := hid fun k (hk : k < (takeL p m n xs).U.length) => (show (colsZ (takeL p m n xs)).getD k 0 = (((takeL p m n xs).cols.getD k 0 : Nat) : Int) ∧ (takeL p m n xs).cols.getD k 0 < n from ⟨mapZ_get _ _, (h.row k hk).2.2.1⟩)
  obtain ⟨Z, eZ⟩ : ∃ Z, crL p (takeL p m n xs).U.length (coreL p m n xs) (ownK p m n xs) = Z := ⟨_, rfl⟩
  have lZ : Z.length = (takeL p m n xs).U.length := by rw [← eZ]; exact crL_len _ _
  rw [eZ] at C3
  have hX : solK p m n xs = setsL ((List.replicate n 0).set F 1) (takeL p m n xs).cols Z (takeL p m n xs).U.length := by rw [← eZ, ← eF]; rfl
  have HX := hid hX
  have hob : ownK p m n xs = tab (takeL p m n xs).U.length fun k => (0 - xs.getD ((takeL p m n xs).rows.getD k 0 * n + F) 0) % p := by rw [← eF]; rfl
  obtain ⟨Gf, hG⟩ : ∃ Gf : Nat → Int, (fun k => (0 - xs.getD ((takeL p m n xs).rows.getD k 0 * n + F) 0) % p) = Gf := ⟨_, rfl⟩
  have HG := hid fun k => (congrFun hG k : (0 - xs.getD ((takeL p m n xs).rows.getD k 0 * n + F) 0) % p = Gf k)
  simp only [HG.out] at CAt
  rw [hG] at hob
  rw [hob] at C3
  obtain ⟨Rw, eR⟩ : ∃ Rw, rowsZ (takeL p m n xs) = Rw := ⟨_, rfl⟩
  rw [eR] at C1 C2 lR HRl
  obtain ⟨Kw, eK⟩ : ∃ Kw, colsZ (takeL p m n xs) = Kw := ⟨_, rfl⟩
  rw [eK] at C1 C2 lK HKl hFl hFn CF6
  obtain ⟨rs, ers⟩ : ∃ rs, (takeL p m n xs).rows = rs := ⟨_, rfl⟩
  rw [ers] at HRl HG CAt
  obtain ⟨cs, ecs⟩ : ∃ cs, (takeL p m n xs).cols = cs := ⟨_, rfl⟩
  rw [ecs] at HKl HX
  obtain ⟨r, er⟩ : ∃ r, (takeL p m n xs).U.length = r := ⟨_, rfl⟩
  rw [er] at C2 C3 CAt hr64 lR lK HRl HKl lZ HX
  obtain ⟨co, eco⟩ : ∃ co, coreL p m n xs = co := ⟨_, rfl⟩
  rw [eco] at C2 C3
  obtain ⟨X, eX⟩ : ∃ X, solK p m n xs = X := ⟨_, rfl⟩
  rw [eX] at HX ⊢
  have lX : X.length = n := by rw [← eX]; exact solK_len
  obtain ⟨a, cap, rfl, k1, k2, k3⟩ := hv
  have LX := hid lX; have LZ := hid lZ; have LR := hid lR; have LK := hid lK
  have hmk := make_ints (P := Try.prog) 23 22 .u64 8 (by omega) (by kernel_rfl) (by kernel_rfl) n n (Nat.le_refl _) (by omega)
  have g0m := made_getR hr0
  have hA := hid (Blk.new w 25 #[.int .i64 (m : Int), .int .i64 (n : Int), .slice a xs.length cap])
  obtain ⟨b0, b1, b2⟩ := hA.out.at3
  have hmx : Try.prog.follows .mixedOrders = true := by kernel_rfl
  unfold matV at C1 C2 C3 CAt
  unfold matV
  clear k3 ok hf h hX hob hG eR eK ers ecs er eco eX lX lZ lR lK eZ eF HG
  go_enter Try.func21, Try.ntmps21
  go_wp2_with (first
    | (go_at_call 63; refine (C1.out _ (by repeat (first | exact Ext.refl _ | assumption | refine Ext.drew ?_ | refine Ext.drewN ?_ _ | refine Ext.alloc ?_ _ | refine Ext.trans ?_ (by assumption)))).mono ?_; rintro _ w2 ⟨rv, cv, a1, l1, q1, a2, l2, q2, rfl, h1, h2, x2⟩
       have H1 := hid h1; have H2 := hid h2
       obtain ⟨ar, cr, rfl, r1, r2, r3⟩ := h1
       obtain ⟨ak, ck, rfl, c1, c2, c3⟩ := h2
       rw [LR.out] at H1 r1 r3 ⊢
       rw [LK.out] at H2 c1 c3 ⊢
       have R3 := hid r3; have K3 := hid c3
       clear r3 c3))
  obtain ⟨w3, hw3⟩ : ∃ w3, w2.alloc (.cells #[.slice ar r cr, .slice ak r ck, .slice a1 l1 q1, .slice a2 l2 q2] 71) = w3 := ⟨_, rfl⟩
  have x3 : Ext w2 w3 := hw3 ▸ (Ext.refl w2).alloc _
  have hC3 : Blk w3 w2.heap.size 71 #[.slice ar r cr, .slice ak r ck, .slice a1 l1 q1, .slice a2 l2 q2] := hw3 ▸ Blk.new _ _ _
  have hX3 : Ext w w3 := Ext.trans (by repeat (first | exact Ext.refl _ | assumption | refine Ext.drew ?_ | refine Ext.drewN ?_ _ | refine Ext.alloc ?_ _ | refine Ext.trans ?_ (by assumption))) x3
  have X3 := hid hX3; have HC := hid hC3; have HA3 := hid ((hA.out.ext x2).ext x3)
  have R1 := hid (H1.out.ext x3); have K1 := hid (H2.out.ext x3)
  have hwT : w2.heap.size < w3.heap.size := hC3.lt
  have hwH : w.heap.size < w2.heap.size := by
    have h := x2.size
    simp at h; omega
  rw [hw3]
  obtain ⟨T, hT⟩ : ∃ T, w2.heap.size = T := ⟨_, rfl⟩
  rw [hT] at HC hwT hwH
  rw [hT]
  obtain ⟨H, hH⟩ : ∃ H, w.heap.size = H := ⟨_, rfl⟩
  rw [hH] at HA3 hwH
  rw [hH]
  have hbR := hid fun i (hi : i < r) => (show ∃ b o, ar = some ⟨b, o, none⟩ ∧ b < w3.heap.size ∧ w3.cell? ⟨b, o + i, none⟩ = some (.int .i64 ((rs.getD i 0 : Nat) : Int)) from by
    obtain ⟨b', o', e, hb, hc⟩ := R3.out (by omega)
    have := hc i hi
    rw [(HRl.out i hi).1] at this
    exact ⟨b', o', e, Nat.lt_of_lt_of_le hb x3.size, (x3.cells _ _ hb).trans this⟩)
  have hbK := hid fun i (hi : i < r) => (show ∃ b o, ak = some ⟨b, o, none⟩ ∧ b < w3.heap.size ∧ w3.cell? ⟨b, o + i, none⟩ = some (.int .i64 ((cs.getD i 0 : Nat) : Int)) from by
    obtain ⟨b', o', e, hb, hc⟩ := K3.out (by omega)
    have := hc i hi
    rw [(HKl.out i hi).1] at this
    exact ⟨b', o', e, Nat.lt_of_lt_of_le hb x3.size, (x3.cells _ _ hb).trans this⟩)
  clear hw3 x3 hC3 hX3 C1 H1 H2 b0 b1 b2 hT hA hH
  go_loopw [8] (fun fv wf => ∃ f : Nat, fv = .int .i64 f ∧ f ≤ F ∧ Ext w3 wf) (fun fv _ => F - (intOf fv).toNat)
  case atStart => exact ⟨0, rfl, Nat.zero_le _, Ext.refl _⟩
  case round =>
    obtain ⟨f, rfl, hfF, hxf⟩ := hrel
    rename World => wf
    have CFd := hid (CF6.out wf _ (f : Int) (K1.out.ext hxf))
    have p1 := (HC.out.ext hxf).cell 1
    by_cases hlf : f < F
    · have hpos := hFl.out f hlf
      obtain ⟨z, ez⟩ : ∃ z, findZ Kw (f : Int) = z := ⟨_, rfl⟩
      rw [ez] at CFd hpos
      have t0 : decide ((0 : Int) ≤ z) = true := decide_eq_true hpos
      clear ez
      go_wp2_with (go_at_call 67; refine CFd.out.mono ?_; rintro _ wg ⟨rfl, hdg⟩; have xg := hdg.ext)
      go_roundw
      case rel => exact ⟨f + 1, by go_num, by omega, hxf.trans xg⟩
      case measure => simp [intOf]; omega
    · obtain rfl : F = f := by omega
      have hneg := hFn.out
      obtain ⟨z, ez⟩ : ∃ z, findZ Kw (F : Int) = z := ⟨_, rfl⟩
      rw [ez] at CFd hneg
      have t0 : decide ((0 : Int) ≤ z) = false := decide_eq_false (by omega)
      have t1 : decide ((n : Int) ≤ (F : Int)) = false := decide_eq_false (by omega)
      have t2 : decide (n ≤ F) = false := decide_eq_false (by omega)
      clear ez
      go_wp2_with (go_at_call 67; refine CFd.out.mono ?_; rintro _ wg ⟨rfl, hdg⟩; have xg := hxf.trans hdg.ext; obtain ⟨e0, e1, e2⟩ := (HA3.out.ext xg).at3)
      clear e0 e1 e2 p1
      have XG := hid xg
      go_loopw [10, 9] (fun iv ov wr => ∃ i : Nat, iv = .int .i64 i ∧ i ≤ r ∧ Hid (wr.ownsRow w3.heap.size 22 1 ov i ((tab i Gf).map (Value.int .u64))) ∧ Ext w3 wr) (fun iv _ _ => r - (intOf iv).toNat)
      case atStart => exact ⟨0, rfl, Nat.zero_le _, hid (World.ownsRow_nil _ _ _ _), XG.out⟩
      case round =>
        obtain ⟨i, rfl, hi', hown, hxr⟩ := hrel
        rename World => wr
        have hsz := hxr.size
        have p0 := (HC.out.ext hxr).cell 0
        by_cases hlt : i < r
        · obtain ⟨br, orr, rfl, hbr, hcr⟩ := hbR.out i hlt
          have hcm := (HRl.out i hlt).2
          have CA := hid (CAt.out i hlt)
          have happ := hid (show ((tab i Gf).map (Value.int .u64)) ++ [Value.int .u64 (Gf i)] = (tab (i + 1) Gf).map (Value.int .u64) by rw [tab_succ, List.map_append]; rfl)
          obtain ⟨c, ec⟩ : ∃ c, rs.getD i 0 = c := ⟨_, rfl⟩
          rw [ec] at hcr hcm CA
          obtain ⟨s, es⟩ : ∃ s, Gf i = s := ⟨_, rfl⟩
          rw [es] at happ CA
          have HCR := hid hcr
          have CF := hid fun (W' : World) (hS : Ext w3 W') => (show (W'.cell? ⟨H, 0, none⟩ = some (.int .i64 (m : Int)) ∧ W'.cell? ⟨H, 1, none⟩ = some (.int .i64 (n : Int)) ∧ W'.cell? ⟨H, 2, none⟩ = some (.slice a xs.length cap)) ∧ W'.cell? ⟨T, 0, none⟩ = some (.slice (some ⟨br, orr, none⟩) r cr) ∧ W'.cell? ⟨br, orr + i, none⟩ = some (.int .i64 (c : Int)) from by
            have h1 := HA3.out.ext hS
            exact ⟨⟨h1.cell 0, h1.cell 1, h1.cell 2⟩, (HC.out.ext hS).cell 0, (hS.cells _ _ hbr).trans HCR.out⟩)
          clear hcr ec es
          go_upto_region 11 with fail
          clear p0
          refine wp_region_held_drew (S := fun W' => Ext w3 W') hmx hxr.drew (fun hHeld => ?_)
          refine wpAnyH_take (i := 0) (v := u9) rfl (by kernel_rfl) (by kernel_rfl) (by kernel_rfl) (fun _ _ _ h => h) (Or.inl ⟨by rfl, ?_⟩) hHeld ?_
          · intro W' hSw
            skip
            go_simp
          refine wpAnyH_take (i := 1) (v := .int .u64 p) rfl (by kernel_rfl) (by kernel_rfl) (by kernel_rfl) (fun _ _ _ h => h) (Or.inl ⟨by rfl, ?_⟩) hHeld ?_
          · intro W' hSw
            skip
            go_simp
          refine wpAnyH_take (i := 2) (v := .agg #[.int .i64 (m : Int), .int .i64 (n : Int), .slice a xs.length cap]) rfl (by kernel_rfl) (by kernel_rfl) (by kernel_rfl) (fun _ _ _ h => h) (Or.inl ⟨by rfl, ?_⟩) hHeld ?_
          · intro W' hSw
            obtain ⟨⟨q0, q1, q2⟩, -, -⟩ := CF.out W' hSw
            go_simp
          refine wpAnyH_take (i := 3) (v := .pointer (some ⟨T, 0, none⟩)) rfl (by kernel_rfl) (by kernel_rfl) (by kernel_rfl) (fun _ _ _ h => h) (Or.inl ⟨by rfl, ?_⟩) hHeld ?_
          · intro W' hSw
            skip
            go_simp
          refine wpAnyH_take (i := 4) (v := .slice (some ⟨br, orr, none⟩) r cr) rfl (by kernel_rfl) (by kernel_rfl) (by kernel_rfl) (fun _ _ _ h => h) (Or.inl ⟨by rfl, ?_⟩) hHeld ?_
          · intro W' hSw
            have q2 := (CF.out W' hSw).2.1
            go_simp
          refine wpAnyH_take (i := 5) (v := .int .i64 (i : Int)) rfl (by kernel_rfl) (by kernel_rfl) (by kernel_rfl) (fun _ _ _ h => h) (Or.inl ⟨by rfl, ?_⟩) hHeld ?_
          · intro W' hSw
            skip
            go_simp
          refine wpAnyH_take (i := 6) (v := .pointer (some ⟨br, orr + i, none⟩)) rfl (by kernel_rfl) (by kernel_rfl) (by kernel_rfl) (fun _ _ _ h => h) (Or.inl ⟨by rfl, ?_⟩) hHeld ?_
          · intro W' hSw
            skip
            go_simp
          refine wpAnyH_take (i := 7) (v := .int .i64 (c : Int)) rfl (by kernel_rfl) (by kernel_rfl) (by kernel_rfl) (fun _ _ _ h => h) (Or.inl ⟨by rfl, ?_⟩) hHeld ?_
          · intro W' hSw
            have q3 := (CF.out W' hSw).2.2
            go_simp
          refine wpAnyH_take (i := 8) (v := .int .i64 (F : Int)) rfl (by kernel_rfl) (by kernel_rfl) (by kernel_rfl) (fun _ _ _ h => h) (Or.inl ⟨by rfl, ?_⟩) hHeld ?_
          · intro W' hSw
            skip
            go_simp
          refine held_step 9 (by kernel_rfl) rfl (fun K hK => ?_)
          go_simp
          go_wp2_with fail
          obtain ⟨y, CA1, CA2⟩ := CA.out
          refine (CA1 _ (X3.out.trans hxr.drew)).mono ?_
          rintro _ w5 ⟨rfl, x5⟩
          have X5 : Ext wr w5 := Ext.trans (Ext.refl wr).drew x5
          go_wp2_with fail
          refine hK.out _ _ (hxr.trans X5) (fun hHeld => ?_)
          clear hK K
          refine held_step 10 (by kernel_rfl) rfl (fun K hK => ?_)
          go_simp
          go_wp2_with fail
          refine (CA2 _).mono ?_
          rintro _ _ ⟨rfl, rfl⟩
          go_wp2_with fail
          refine hK.out _ _ (hxr.trans X5) (fun hHeld => ?_)
          clear hK K
          refine held_step 11 (by kernel_rfl) rfl (fun K hK => ?_)
          go_simp
          have X6 : Ext wr (w5.alloc (.cells #[.int .u64 s] 22)) := X5.alloc _
          refine hK.out _ _ (hxr.trans X6) (fun hHeld => ?_)
          clear hK K
          refine held_step 12 (by kernel_rfl) rfl (fun K hK => ?_)
          have hs6 : w3.heap.size ≤ (w5.alloc (.cells #[.int .u64 s] 22)).heap.size := (hxr.trans X6).size
          refine step_append_at _ rfl (.tmp 38) (.tmp 49) 23 rfl w3.heap.size 22 i0 (.int .u64 0) 1 8 Try.underlying23 hi hz0 hz1 hz2 rfl (by decide) u9 i ((tab i Gf).map (Value.int .u64)) (by simp [Act.eval]) (ownsRow_ext hown.out X6) ⟨w5.heap.size, 0, none⟩ 1 1 [.int .u64 s] (by simp [Act.eval]) rfl (cells_new _ _ _ rfl) (by simp [Value.oneCell']) (by simp only [maxLen]; omega) (by omega) hs6 ?_
          intro v6 w6 hown6 hgrow6 hat6
          rw [happ.out] at hown6
          have Hown6 := hid hown6
          have hw6 : Ext w3 w6 := (hxr.trans X6).grown hgrow6 (fun k e => (hown.out.lt k e).1)
          obtain ⟨a6, c6, rfl, -, -, -⟩ := WRow.of_owns hown6
          clear hown6 hgrow6 hat6
          refine hK.out _ _ hw6 (fun hHeld => ?_)
          clear hK K
          refine wpAnyH_take (i := 13) (v := .slice a6 (i + 1) c6) rfl (by kernel_rfl) (by kernel_rfl) (by kernel_rfl) (fun _ _ _ h => h) (Or.inl ⟨by rfl, ?_⟩) hHeld ?_
          · intro W' hSw
            go_simp
          refine wpAnyH_done (by kernel_rfl) ?_ _
          clear CF
          go_wp2_with fail
          go_roundw
          case rel => exact ⟨i + 1, by go_num, by omega, Hown6, hw6⟩
          case measure => simp [intOf]; omega
        · obtain rfl : r = i := by omega
          obtain ⟨ao, co', rfl, -, hI⟩ := owns_ints hown.out
          have HI := hid hI
          have hA4 := HA3.out.ext hxr
          have hC4 := HC.out.ext hxr
          obtain ⟨b0, b1, b2⟩ := hA4.at3
          obtain ⟨p0, p1, p2, p3⟩ := hC4.at4
          clear hI hA4 hC4
          go_upto_region 15 with (first
            | (go_at_call 65; refine (C2.out _ _ _ _ _ (X3.out.trans hxr) (R1.out.ext hxr) (K1.out.ext hxr)).mono ?_; rintro _ w5 ⟨v5, rfl, hi5, x5⟩
               unfold matV
               have HI5 := hid hi5
               obtain ⟨a5, c5, rfl, -, -, -⟩ := hi5)
            | (go_at_call 64; refine (C3.out _ _ _ HI5.out (HI.out.ext x5)).mono ?_; rintro _ w6 ⟨v6, rfl, hi6, x6⟩
               have HI6 := hid hi6
               obtain ⟨a6, c6, rfl, z1, z2, z3⟩ := hi6
               rw [LZ.out] at HI6 z1 z3 ⊢
               have Z3 := hid z3
               have hA6 := HA3.out.ext ((hxr.trans x5).trans x6)
               obtain ⟨d0, d1, d2⟩ := hA6.at3
               clear hA6 z3))
          have hx36 : Ext w3 w6 := (hxr.trans x5).trans x6
          have HX36 := hid hx36
          obtain ⟨g, hg⟩ : ∃ g, w6.heap.size = g := ⟨_, rfl⟩
          have hW0 := hid (WRow.made1R (t := 22) (n := n) (i := F) (w := w6) (g := g) hg.symm)
          have hs36 := hx36.size
          rw [hg] at hs36
          have HGW := hid hg
          rw [hg]
          clear b0 b1 b2 p0 p1 p2 p3 d0 d1 d2 hx36
          go_wp2_with fail
          go_loopw [13] (fun kv wl => ∃ k : Nat, kv = .int .i64 k ∧ k ≤ r ∧ Hid (WRow wl g 0 (setsL ((List.replicate n 0).set F 1) cs Z k)) ∧ Ext w6 wl) (fun kv _ => r - (intOf kv).toNat)
          case atStart => exact ⟨0, rfl, Nat.zero_le _, hW0, (Ext.refl _).alloc _⟩
          case round =>
            clear hW0
            obtain ⟨k, rfl, hk, HW, hxl⟩ := hrel
            rename World => wl
            have hC7 := HC.out.ext (HX36.out.trans hxl)
            have p1 := hC7.cell 1
            by_cases hlk : k < r
            · obtain ⟨bk, ok2, rfl, hbk, hck⟩ := hbK.out k hlk
              obtain ⟨bz, oz, rfl, hbz, hcz⟩ := Z3.out (by omega)
              have hcn := (HKl.out k hlk).2
              have hsets := hid (show setsL ((List.replicate n 0).set F 1) cs Z (k + 1) = (setsL ((List.replicate n 0).set F 1) cs Z k).set (cs.getD k 0) (Z.getD k 0) from rfl)
              have hzk := hcz k hlk
              obtain ⟨c, ec⟩ : ∃ c, cs.getD k 0 = c := ⟨_, rfl⟩
              rw [ec] at hck hcn hsets
              obtain ⟨y, ey⟩ : ∃ y, Z.getD k 0 = y := ⟨_, rfl⟩
              rw [ey] at hzk hsets
              have HCK := hid hck; have HZK := hid hzk
              have hgz : bz < g := by have := HGW.out; omega
              have hlz := hxl.size
              have CF := hid fun (W' : World) (hS : wl.grownBy W' (some g)) => (show W'.cell? ⟨T, 1, none⟩ = some (.slice (some ⟨bk, ok2, none⟩) r ck) ∧ W'.cell? ⟨bk, ok2 + k, none⟩ = some (.int .i64 (c : Int)) ∧ W'.cell? ⟨bz, oz + k, none⟩ = some (.int .u64 y) from by
                have hs := (HX36.out.trans hxl).size
                exact ⟨(grown_cell' hS (by omega) (by omega)).trans ((HC.out.ext (HX36.out.trans hxl)).cell 1), (grown_cell' hS (by omega) (by omega)).trans (((HX36.out.trans hxl).cells _ _ hbk).trans HCK.out), (grown_cell' hS (by omega) (by omega)).trans ((hxl.cells _ _ hbz).trans HZK.out)⟩)
              clear hck hzk hcz ec ey hC7
              go_upto_region 18 with fail
              clear p1
              refine wp_region_held_drew (S := fun W' => wl.grownBy W' (some g)) hmx (ext_grownBy (Ext.refl wl).drew) (fun hHeld => ?_)
              refine wpAnyH_take (i := 0) (v := .slice (some ⟨g, 0, none⟩) n n) rfl (by kernel_rfl) (by kernel_rfl) (by kernel_rfl) (fun _ _ _ h => h) (Or.inl ⟨by rfl, ?_⟩) hHeld ?_
              · intro W' hSw
                skip
                go_simp
              refine wpAnyH_take (i := 1) (v := .pointer (some ⟨T, 1, none⟩)) rfl (by kernel_rfl) (by kernel_rfl) (by kernel_rfl) (fun _ _ _ h => h) (Or.inl ⟨by rfl, ?_⟩) hHeld ?_
              · intro W' hSw
                skip
                go_simp
              refine wpAnyH_take (i := 2) (v := .slice (some ⟨bk, ok2, none⟩) r ck) rfl (by kernel_rfl) (by kernel_rfl) (by kernel_rfl) (fun _ _ _ h => h) (Or.inl ⟨by rfl, ?_⟩) hHeld ?_
              · intro W' hSw
                have q1 := (CF.out W' hSw).1
                go_simp
              refine wpAnyH_take (i := 3) (v := .int .i64 (k : Int)) rfl (by kernel_rfl) (by kernel_rfl) (by kernel_rfl) (fun _ _ _ h => h) (Or.inl ⟨by rfl, ?_⟩) hHeld ?_
              · intro W' hSw
                skip
                go_simp
              refine wpAnyH_take (i := 4) (v := .pointer (some ⟨bk, ok2 + k, none⟩)) rfl (by kernel_rfl) (by kernel_rfl) (by kernel_rfl) (fun _ _ _ h => h) (Or.inl ⟨by rfl, ?_⟩) hHeld ?_
              · intro W' hSw
                skip
                go_simp
              refine wpAnyH_take (i := 5) (v := .int .i64 (c : Int)) rfl (by kernel_rfl) (by kernel_rfl) (by kernel_rfl) (fun _ _ _ h => h) (Or.inl ⟨by rfl, ?_⟩) hHeld ?_
              · intro W' hSw
                have q2 := (CF.out W' hSw).2.1
                go_simp
              refine wpAnyH_take (i := 6) (v := .slice (some ⟨bz, oz, none⟩) r c6) rfl (by kernel_rfl) (by kernel_rfl) (by kernel_rfl) (fun _ _ _ h => h) (Or.inl ⟨by rfl, ?_⟩) hHeld ?_
              · intro W' hSw
                skip
                go_simp
              refine wpAnyH_take (i := 7) (v := .int .i64 (k : Int)) rfl (by kernel_rfl) (by kernel_rfl) (by kernel_rfl) (fun _ _ _ h => h) (Or.inl ⟨by rfl, ?_⟩) hHeld ?_
              · intro W' hSw
                skip
                go_simp
              refine wpAnyH_take (i := 8) (v := .pointer (some ⟨bz, oz + k, none⟩)) rfl (by kernel_rfl) (by kernel_rfl) (by kernel_rfl) (fun _ _ _ h => h) (Or.inl ⟨by rfl, ?_⟩) hHeld ?_
              · intro W' hSw
                skip
                go_simp
              refine wpAnyH_take (i := 9) (v := .int .u64 y) rfl (by kernel_rfl) (by kernel_rfl) (by kernel_rfl) (fun _ _ _ h => h) (Or.inl ⟨by rfl, ?_⟩) hHeld ?_
              · intro W' hSw
                have q3 := (CF.out W' hSw).2.2
                go_simp
              refine wpAnyH_take (i := 10) (v := .pointer (some ⟨g, c, none⟩)) rfl (by kernel_rfl) (by kernel_rfl) (by kernel_rfl) (fun _ _ _ h => h) (Or.inl ⟨by rfl, ?_⟩) hHeld ?_
              · intro W' hSw
                skip
                go_simp
              refine held_step 11 (by kernel_rfl) rfl (fun K hK => ?_)
              have hl7 : (setsL ((List.replicate n 0).set F 1) cs Z k).length = n := by rw [setsL_len, List.length_set, List.length_replicate]
              have hr7 := HW.out.ext ((Ext.refl wl).drew)
              have hr7c := (hr7.2 c (by rw [hl7]; exact hcn)).1
              have hr7f := (hr7.2 c (by rw [hl7]; exact hcn)).2
              rw [Nat.zero_add] at hr7c hr7f
              have hsw := hid (hr7.set_ (i := c) (by rw [hl7]; exact hcn) y)
              rw [Nat.zero_add, ← hsets.out] at hsw
              clear hl7
              go_simp
              have hfin : wl.grownBy (wl.drew.setCell ⟨g, c, none⟩ (.int .u64 y)) (some g) := (ext_grownBy (Ext.refl wl).drew).trans (setCell_grown _ _ _)
              refine hK.out _ _ hfin (fun hHeld => ?_)
              clear hK K
              refine wpAnyH_done (by kernel_rfl) ?_ _
              have hx9 : Ext w6 (wl.drew.setCell ⟨g, c, none⟩ (.int .u64 y)) := hxl.grown hfin (fun q e => by injection e with e; have := HGW.out; omega)
              clear hr7 hr7c hr7f CF
              go_wp2_with fail
              go_roundw
              case rel => exact ⟨k + 1, by go_num, by omega, hsw, hx9⟩
              case measure => simp [intOf]; omega
            · obtain rfl : r = k := by omega
              have hXr := HW.out
              rw [← HX.out] at hXr
              have hXI := hid (hXr.ints' LX.out (Nat.le_refl n) (by omega))
              have hX0 := hid ((X3.out.trans HX36.out).trans hxl)
              clear hXr
              go_wp2_with fail
              go_ret2
              exact ⟨_, rfl, hXI.out, hX0.out⟩
end Go.Proofs.Ytfpmcajndgkgeaa
