/- PermDone: whatever the two lists and the numbers, the law answers true, and nothing that was there has turned. No condition. -/
import Derived.Test.YtalkbmnbggclpaaAwake06
namespace Go.Proofs.Ytalkbmnbggclpaa.permDone
open Go.ChangeShapes Go.WideShapes Go.ChangeAt Go.RowKit Go.Maps

set_option maxRecDepth 100000 in
set_option maxHeartbeats 2000000 in
theorem walk_skip (v u vx : Value) (p q x : List Int) (w : World) (hv : Ints .i64 w v p) (hx : I64s p) (hu : Ints .i64 w u q) (hy : I64s q) (hz : Ints .u64 w vx x)
    (h : (ordB p && ordB q && decide (p.length = q.length) && decide (x.length = p.length)) = false) :
    Calls Try.prog 5 #[v, u, vx] w (Ret (.bool true) w) := by
  have C1 := hid fun (W : World) (hW : Ext w W) => pmRight v p W (hv.ext hW) hx
  have C2 := hid fun (W : World) (hW : Ext w W) => pmRight u q W (hu.ext hW) hy
  obtain ⟨P, e1⟩ : ∃ B, ordB p = B := ⟨_, rfl⟩
  obtain ⟨Q, e2⟩ : ∃ B, ordB q = B := ⟨_, rfl⟩
  obtain ⟨L, e3⟩ : ∃ B, decide (p.length = q.length) = B := ⟨_, rfl⟩
  obtain ⟨X, e4⟩ : ∃ B, decide (x.length = p.length) = B := ⟨_, rfl⟩
  rw [e1] at C1 h; rw [e2] at C2 h; rw [e3, e4] at h
  have t3 : ((p.length : Int) != (q.length : Int)) = !L := by rw [← e3]; by_cases e : p.length = q.length <;> simp [e]; omega
  have t4 : ((x.length : Int) != (p.length : Int)) = !X := by rw [← e4]; by_cases e : x.length = p.length <;> simp [e]; omega
  obtain ⟨a, cap, rfl, k1, k2, k3⟩ := hv
  obtain ⟨a', cap', rfl, k1', k2', k3'⟩ := hu
  obtain ⟨ax, capx, rfl, l1, l2, l3⟩ := hz
  clear k3 k3' l3 hx hy e1 e2 e3 e4
  cases P with
  | false =>
    as_aux_lemma =>
      go_enter Try.func5, Try.ntmps5
      go_wp2_with fail
      refine (awake06 _).mono ?_
      rintro _ w1 ⟨rfl, x1⟩
      go_wp2_with fail
      refine (C1.out _ x1).mono ?_
      rintro _ w2 ⟨rfl, x2⟩
      go_wp2_with fail
      go_ret
      exact ⟨rfl, x1.trans x2⟩
  | true =>
    cases Q with
    | false =>
      as_aux_lemma =>
        go_enter Try.func5, Try.ntmps5
        go_wp2_with fail
        refine (awake06 _).mono ?_
        rintro _ w1 ⟨rfl, x1⟩
        go_wp2_with fail
        refine (C1.out _ x1).mono ?_
        rintro _ w2 ⟨rfl, x2⟩
        go_wp2_with fail
        refine (C2.out _ (x1.trans x2)).mono ?_
        rintro _ w3 ⟨rfl, x3⟩
        go_wp2_with fail
        go_ret
        exact ⟨rfl, (x1.trans x2).trans x3⟩
    | true =>
      cases L with
      | false =>
        clear h
        as_aux_lemma =>
          go_enter Try.func5, Try.ntmps5
          go_wp2_with fail
          refine (awake06 _).mono ?_
          rintro _ w1 ⟨rfl, x1⟩
          go_wp2_with fail
          refine (C1.out _ x1).mono ?_
          rintro _ w2 ⟨rfl, x2⟩
          go_wp2_with fail
          refine (C2.out _ (x1.trans x2)).mono ?_
          rintro _ w3 ⟨rfl, x3⟩
          go_wp2_with fail
          go_ret
          exact ⟨rfl, (x1.trans x2).trans x3⟩
      | true =>
        cases X with
        | false =>
          clear h
          as_aux_lemma =>
            go_enter Try.func5, Try.ntmps5
            go_wp2_with fail
            refine (awake06 _).mono ?_
            rintro _ w1 ⟨rfl, x1⟩
            go_wp2_with fail
            refine (C1.out _ x1).mono ?_
            rintro _ w2 ⟨rfl, x2⟩
            go_wp2_with fail
            refine (C2.out _ (x1.trans x2)).mono ?_
            rintro _ w3 ⟨rfl, x3⟩
            go_wp2_with fail
            go_ret
            exact ⟨rfl, (x1.trans x2).trans x3⟩
        | true => cases h

theorem flat_succ {ls : List (List Int)} {i : Nat} (h : i < ls.length) : (ls.take (i + 1)).flatten = (ls.take i).flatten ++ ls.getD i [] := by
  rw [List.take_succ_eq_append_getElem h, List.flatten_append]
  simp [List.getD, h]
theorem flat_le (ls : List (List Int)) (i : Nat) : (ls.take i).flatten.length ≤ ls.flatten.length := by
  have h := congrArg (fun l => (List.flatten l).length) (List.take_append_drop i ls)
  simp only [List.flatten_append, List.length_append] at h
  omega
theorem ring_of {n : Nat} {p : List Int} (hp : Ord n p) {i : Nat} (hi : i < (ringsL p).length) : ∃ s, s < n ∧ leastB p s = true ∧ (ringsL p).getD i [] = ringL p s := by
  have hm : (ringsL p).getD i [] ∈ ringsTo p p.length := by
    rw [List.getD, List.getElem?_eq_getElem hi]; exact List.getElem_mem hi
  obtain ⟨s, h1, h2, h3⟩ := ringsTo_mem.1 hm
  exact ⟨s, by rw [hp.len] at h1; exact h1, h2, h3⟩

set_option maxRecDepth 100000 in
set_option maxHeartbeats 4000000 in
theorem walk_yes (v u vx : Value) (n : Nat) (p q x : List Int) (w : World) (hv : Ints .i64 w v p) (hu : Ints .i64 w u q) (hz : Ints .u64 w vx x) (hx : U64s x) (hp : Ord n p) (hq : Ord n q) (hl : x.length = n) (h0 : 0 < n) (h1 : n ≤ 64) :
    Calls Try.prog 5 #[v, u, vx] w (Ret (.bool true) w) := by
  obtain ⟨i0, hI, hz0, hz1, hz2⟩ := info_parts info_i64p
  have Hp := hid hp
  have da : (doL p x).length = n := by rw [doL_len, hp.len]
  have eBC : doL q (doL p x) = doL (thenL p q) x := do_do hp.len hq
  have eDX : doL (backL p) (doL p x) = x := by rw [do_do hp.len hp.back, hp.then_back, do_up hl]
  have C1 := hid fun (W : World) (hW : Ext w W) => (show Calls Try.prog 16 #[v] W (Ret (.bool true) W) from hp.b h0 h1 ▸ pmRight v p W (hv.ext hW) (hp.i64 h1))
  have C2 := hid fun (W : World) (hW : Ext w W) => (show Calls Try.prog 16 #[u] W (Ret (.bool true) W) from hq.b h0 h1 ▸ pmRight u q W (hu.ext hW) (hq.i64 h1))
  have C3 := hid fun (W : World) (hW : Ext w W) => pDo (hv.ext hW) (hz.ext hW) hx hp hl h0 h1
  have C4 := hid fun (W : World) (hW : Ext w W) (va : Value) (ha : Ints .u64 W va (doL p x)) => eBC ▸ pDo (hu.ext hW) ha (doL_u64 hx) hq da h0 h1
  have C5 := hid fun (W : World) (hW : Ext w W) => pThen (hv.ext hW) (hu.ext hW) hp hq h0 h1
  have C6 := hid fun (W : World) (hW : Ext w W) (vt : Value) (ht : Ints .i64 W vt (thenL p q)) => pDo ht (hz.ext hW) hx (hp.then hq) hl h0 h1
  have C7 := hid fun (W : World) (hW : Ext w W) => pBack (hv.ext hW) hp h0 h1
  have C8 := hid fun (W : World) (vb va : Value) (hb : Ints .i64 W vb (backL p)) (ha : Ints .u64 W va (doL p x)) => (show Calls Try.prog 11 #[vb, va] W (RetVU x W) from Eq.mp (by rw [eDX]) (pDo hb ha (doL_u64 hx) hp.back da h0 h1))
  have C9 := hid fun (W : World) (hW : Ext w W) (vb : Value) (hb : Ints .i64 W vb (backL p)) => hp.then_back ▸ pThen (hv.ext hW) hb hp hp.back h0 h1
  have C10 := hid fun (W : World) => pOne (w := W) h0 h1
  have C11 := hid fun (W : World) (hW : Ext w W) => pRings (hv.ext hW) hp h0 h1
  have C12 := hid fun (W : World) (va : Value) (ha : Ints .i64 W va (ringsL p).flatten) => (show Calls Try.prog 16 #[va] W (Ret (.bool true) W) from (hp.rings_flat.b h0 h1) ▸ pmRight va _ W ha (hp.rings_flat.i64 h1))
  have CX := hid hz
  have hfl := hp.rings_flat.len
  obtain ⟨ls, hls⟩ : ∃ ls, ringsL p = ls := ⟨_, rfl⟩
  have ringOf := hid fun (i : Nat) (hi : i < ls.length) => (show ∃ s, s < n ∧ leastB p s = true ∧ ls.getD i [] = ringL p s from by subst hls; exact ring_of hp hi)
  rw [hls] at hfl C11 C12
  have Hfl := hid hfl
  have e1 := hp.len; have e2 := hq.len
  obtain ⟨a, cap, rfl, k1, k2, k3⟩ := hv
  obtain ⟨a', cap', rfl, k1', k2', k3'⟩ := hu
  obtain ⟨ax, capx, rfl, l1, l2, l3⟩ := hz
  rw [e1] at C1 C3 C5 C7 C9 C11 k1 k3 ⊢
  rw [e2] at C2 C4 C5 k1' ⊢
  rw [hl] at C3 C6 CX l1 ⊢
  obtain ⟨b, off, rfl, hb, hcell⟩ := k3 h0
  have HC := hid hcell
  clear k3 k3' l3 hcell hx hp hq hl da eBC eDX hfl hls e1 e2
  go_enter Try.func5, Try.ntmps5
  go_wp2_with fail
  refine (awake06 _).mono ?_
  rintro _ w1 ⟨rfl, xw1⟩
  go_wp2_with fail
  refine (C1.out _ xw1).mono ?_
  rintro _ w2 ⟨rfl, xw2⟩
  go_wp2_with fail
  refine (C2.out _ (xw1.trans xw2)).mono ?_
  rintro _ w3 ⟨rfl, xw3⟩
  go_wp2_with fail
  refine (C3.out _ (xw1.trans (xw2.trans xw3))).mono ?_
  rintro _ w4 ⟨vA, rfl, iA, xw4⟩
  have IA := hid iA
  clear iA
  go_wp2_with fail
  refine (C4.out _ (xw1.trans (xw2.trans (xw3.trans xw4))) _ IA.out).mono ?_
  rintro _ w5 ⟨vB, rfl, iB, xw5⟩
  have IB := hid iB
  clear iB
  go_wp2_with fail
  refine (C5.out _ (xw1.trans (xw2.trans (xw3.trans (xw4.trans xw5))))).mono ?_
  rintro _ w6 ⟨vT, rfl, iT, xw6⟩
  have IT := hid iT
  clear iT
  go_wp2_with fail
  refine (C6.out _ (xw1.trans (xw2.trans (xw3.trans (xw4.trans (xw5.trans xw6))))) _ IT.out).mono ?_
  rintro _ w7 ⟨vC, rfl, iC, xw7⟩
  have IC := hid iC
  clear iC
  go_wp2_with fail
  refine (C7.out _ (xw1.trans (xw2.trans (xw3.trans (xw4.trans (xw5.trans (xw6.trans xw7))))))).mono ?_
  rintro _ w8 ⟨vU, rfl, iU, xw8⟩
  have IU := hid iU
  clear iU
  go_wp2_with fail
  refine (C8.out _ _ _ IU.out (IA.out.ext (xw5.trans (xw6.trans (xw7.trans xw8))))).mono ?_
  rintro _ w9 ⟨vD, rfl, iD, xw9⟩
  have ID := hid iD
  clear iD
  go_wp2_with fail
  refine (C9.out _ (xw1.trans (xw2.trans (xw3.trans (xw4.trans (xw5.trans (xw6.trans (xw7.trans (xw8.trans xw9)))))))) _ (IU.out.ext xw9)).mono ?_
  rintro _ w10 ⟨vO, rfl, iO, xw10⟩
  have IO := hid iO
  clear iO
  go_wp2_with fail
  refine (C10.out _).mono ?_
  rintro _ w11 ⟨vF, rfl, iF, xw11⟩
  have IF := hid iF
  clear iF
  go_wp2_with fail
  refine (same_yes _ _ _ _ (IB.out.ext (xw6.trans (xw7.trans (xw8.trans (xw9.trans (xw10.trans xw11)))))) (IC.out.ext (xw8.trans (xw9.trans (xw10.trans xw11))))).mono ?_
  rintro _ w12 ⟨rfl, xw12⟩
  go_wp2_with fail
  refine (same_yes _ _ _ _ (ID.out.ext (xw10.trans (xw11.trans xw12))) (CX.out.ext (xw1.trans (xw2.trans (xw3.trans (xw4.trans (xw5.trans (xw6.trans (xw7.trans (xw8.trans (xw9.trans (xw10.trans (xw11.trans xw12))))))))))))).mono ?_
  rintro _ w13 ⟨rfl, xw13⟩
  go_wp2_with fail
  refine (r6Same_yes _ _ _ _ (IO.out.ext (xw11.trans (xw12.trans xw13))) (IF.out.ext (xw12.trans xw13))).mono ?_
  rintro _ w14 ⟨rfl, xw14⟩
  go_wp2_with fail
  refine (C11.out _ (xw1.trans (xw2.trans (xw3.trans (xw4.trans (xw5.trans (xw6.trans (xw7.trans (xw8.trans (xw9.trans (xw10.trans (xw11.trans (xw12.trans (xw13.trans xw14)))))))))))))).mono ?_
  rintro _ w15 ⟨vL, rfl, iL, xw15⟩
  obtain ⟨aL, kL, rfl, kl1, kl2, kl3⟩ := iL
  have KL := hid kl3
  clear kl3
  have yl := (xw1.trans (xw2.trans (xw3.trans (xw4.trans (xw5.trans (xw6.trans (xw7.trans (xw8.trans (xw9.trans (xw10.trans (xw11.trans (xw12.trans (xw13.trans (xw14.trans xw15))))))))))))))
  clear C1 C2 C3 C4 C5 C6 C7 C8 C9 C10 C11 CX IA IB IT IC IU ID IO IF
  clear xw1 xw2 xw3 xw4 xw5 xw6 xw7 xw8 xw9 xw10 xw11 xw12 xw13 xw14 xw15
  go_wp2_with fail
  go_loopw [26, 25] (fun iv av wr => ∃ i : Nat, iv = .int .i64 i ∧ i ≤ ls.length ∧ Hid (wr.ownsRow w15.heap.size 3 1 av (ls.take i).flatten.length ((ls.take i).flatten.map (Value.int .i64))) ∧ Ext w15 wr) (fun iv _ _ => ls.length - (intOf iv).toNat)
  case atStart => exact ⟨0, rfl, Nat.zero_le _, hid (World.ownsRow_nil _ _ _ _), Ext.refl _⟩
  case round =>
    obtain ⟨i, rfl, hi, hown, hxr⟩ := hrel
    rename World => wo
    by_cases hlt : i < ls.length
    · obtain ⟨bL, oL, rfl, hbL, hcL⟩ := KL.out (by omega)
      obtain ⟨uR, gL, hR⟩ := hcL i hlt
      obtain ⟨s, hsn, hsl, hse⟩ := ringOf.out i hlt
      rw [hse] at hR
      have per := Hp.out.per hsn
      obtain ⟨aR, cR, rfl, r1, r2, r3⟩ := hR
      have hlen := ringL_len p s
      obtain ⟨r, hr⟩ : ∃ r, perL p s = r := ⟨_, rfl⟩
      rw [hr] at hlen per
      have Hr := hid hr
      have HRr := hid (show Ints .i64 w15 (.slice aR (ringL p s).length cR) (ringL p s) from ⟨aR, cR, rfl, r1, r2, r3⟩)
      rw [hlen] at r1 r3 gL HRr
      obtain ⟨bR, oR, rfl, hbR, hcR⟩ := r3 per.1
      have HcR := hid fun (j : Nat) (hj : j < r) => (show w15.cell? ⟨bR, oR + j, none⟩ = some (.int .i64 (itL p j s : Int)) from by
        have := hcR j (by omega)
        rwa [ringL_get (by rw [hr]; exact hj)] at this)
      have hper1 := per.1
      have hstep := hid fun (j : Nat) => Hp.out.ring_step hsn j
      have hitl := hid fun (j : Nat) => Hp.out.it_lt hsn j
      have hleast := hid fun (j : Nat) => (show s ≤ itL p j s from by have := leastB_true hsl (Hp.out.ring_mem hsn j); omega)
      have hrn := per.2.1
      have Hse := hid hse
      have Hlen := hid hlen
      clear hcL r3 hcR per hr hse hlen
      have gLo := (hxr.cells _ _ hbL).trans gL
      go_wp2_with fail
      go_loopw [27] (fun jv wr => ∃ j : Nat, jv = .int .i64 j ∧ j ≤ r ∧ Ext wo wr) (fun jv _ => r - (intOf jv).toNat)
      case atStart => exact ⟨0, rfl, Nat.zero_le _, Ext.refl _⟩
      case round =>
        obtain ⟨j, rfl, hj, hxj⟩ := hrel
        rename World => wi
        have gLi := (hxj.cells _ _ (cell_lt gLo)).trans gLo
        have hxi := hxr.trans hxj
        by_cases hjr : j < r
        · have g1 := (hxi.cells _ _ hbR).trans (HcR.out j hjr)
          have g0 := (hxi.cells _ _ hbR).trans (HcR.out 0 hper1)
          have hyn := hitl.out j
          have hys := hleast.out j
          have hst := hstep.out j
          rw [Hr.out] at hst
          obtain ⟨t, ht⟩ : ∃ t, (j + 1) % r = t := ⟨_, rfl⟩
          have htr : t < r := by rw [← ht]; exact Nat.mod_lt _ hper1
          have g2 := (hxi.cells _ _ hbR).trans (HcR.out t htr)
          rw [ht] at hst
          have hmod1 : ((j : Int) + 1) % (r : Int) = (t : Int) := by rw [← ht]; push_cast; rfl
          have hmod2 : ((j : Int) + 1).tmod (r : Int) = (t : Int) := by rw [Int.tmod_eq_emod_of_nonneg (by omega)]; exact hmod1
          have e0 : itL p 0 s = s := rfl
          rw [e0, Nat.add_zero] at g0
          have g3 := ((yl.trans hxi).cells _ _ hb).trans (HC.out _ hyn)
          rw [hst] at g3
          obtain ⟨y, hy⟩ : ∃ y, itL p j s = y := ⟨_, rfl⟩
          obtain ⟨z, hz⟩ : ∃ z, itL p t s = z := ⟨_, rfl⟩
          rw [hy] at g1 g3 hyn hys
          rw [hz] at g2 g3
          have d1 : decide ((y : Int) < 0) = false := decide_eq_false (by omega)
          have d2 : decide (n ≤ y) = false := decide_eq_false (by omega)
          have d2' : decide ((n : Int) ≤ (y : Int)) = false := decide_eq_false (by omega)
          have d3 : ((z : Int) != (z : Int)) = false := by simp
          have d4 : decide (y < s) = false := decide_eq_false (by omega)
          have d4' : decide ((y : Int) < (s : Int)) = false := decide_eq_false (by omega)
          have d5 : ((r : Int) == 0) = false := by rw [beq_eq_false_iff_ne]; omega
          have hw : IntKind.i64.wrap ((j : Int) + 1) = (j : Int) + 1 := IntWalk.i64_in _ (by omega)
          clear hst ht e0 hy hz
          go_wp2_with fail
          go_quiet (fail)
          go_wp2_with fail
          go_roundw
          case rel => exact ⟨j + 1, by go_num, by omega, hxj.drewN _⟩
          case measure => simp [intOf]; omega
        · obtain rfl : j = r := by omega
          have hfs := flat_succ hlt
          rw [Hse.out] at hfs
          have hle := flat_le ls (i + 1)
          rw [Hfl.out, hfs, List.length_append, Hlen.out] at hle
          have hown2 := ownsRow_ext hown.out hxj
          obtain ⟨F, hF⟩ : ∃ F, (ls.take i).flatten = F := ⟨_, rfl⟩
          rw [hF] at hfs hown2 hle
          have Hown2 := hid hown2
          have Hfs := hid hfs
          have hsz := hxi.size
          clear hfs hown2 hown
          clear hF
          go_wp2_with (first | (at_builtin; refine wpList_append_own _ rfl _ _ 22 rfl w15.heap.size 3 i0 (.int .i64 0) 1 8 Try.underlying22 hI hz0 hz1 hz2 rfl (by decide) _ F.length _ rfl Hown2.out ⟨bR, oR, none⟩ j cR ((ringL p s).map (Value.int .i64)) rfl (by rw [List.length_map, Hlen.out, Nat.mul_one]) (ints_news (HRr.out.ext hxi)) ints_one (by simp only [maxLen]; omega) (by omega) hsz ?_; intro v' w6 hown6 hgrow6 hnil6; have hx6 := hxi.grown hgrow6 (fun t e => (Hown2.out.lt t e).1)) | fail)
          go_roundw
          case rel => exact ⟨i + 1, by go_num, by omega, hid (by rw [Hfs.out, List.length_append, List.map_append, Hlen.out]; exact hown6), hx6⟩
          case measure => simp [intOf]; omega
    · obtain rfl : i = ls.length := by omega
      have hown2 := hown.out
      rw [List.take_length] at hown2
      obtain ⟨aF, cF, rfl, hlF, hIF⟩ := owns_ints hown2
      have HIF := hid hIF
      rw [Hfl.out]
      rw [Hfl.out] at HIF
      clear hown2 hown hIF hlF
      go_wp2_with fail
      refine (C12.out _ _ HIF.out).mono ?_
      rintro _ w16 ⟨rfl, x16⟩
      go_wp2_with fail
      go_ret
      exact ⟨rfl, yl.trans (hxr.trans x16)⟩

/-- the law answers true -/
theorem walk (v : Value) (p : List Int) (u : Value) (q : List Int) (vx : Value) (x : List Int) (w : World) (hv : Ints .i64 w v p) (hx : ∀ x ∈ p, (Lit.int .i64 x).wf = true) (hu : Ints .i64 w u q) (hy : ∀ y ∈ q, (Lit.int .i64 y).wf = true) (hz : Ints .u64 w vx x) (hxx : ∀ y ∈ x, (Lit.int .u64 y).wf = true) :
    Calls Try.prog 5 #[v, u, vx] w (Ret (.bool true) w) := by
  have hx' : I64s p := fun x h => i64_wf (hx x h)
  have hy' : I64s q := fun x h => i64_wf (hy x h)
  have hz' : U64s x := fun x h => u64_wf (hxx x h)
  cases h : (ordB p && ordB q && decide (p.length = q.length) && decide (x.length = p.length)) with
  | false => exact walk_skip v u vx p q x w hv hx' hu hy' hz h
  | true =>
    simp only [Bool.and_eq_true, decide_eq_true_eq] at h
    obtain ⟨⟨⟨g1, g2⟩, g3⟩, g4⟩ := h
    obtain ⟨a1, a2, a3⟩ := ordB_iff.1 g1
    obtain ⟨_, _, a4⟩ := ordB_iff.1 g2
    exact walk_yes v u vx p.length p q x w hv hu hz hz' a3 (g3.symm ▸ a4) g4 a1 a2

theorem own : ownKnob Try.prog.godebug = none := by kernel_rfl
set_option maxRecDepth 100000 in
theorem lifted (os : Os) (started : os.Started) (H : Type) (enc : TypeId × Value → H) :
    ReturnsInHanded {} Try.checked os 5 .any (Rows.permDoneSpec.pre6 enc Try.prog Try.f5 Rows.permDoneRow.domain false) (Rows.permDoneSpec.post enc Try.prog Try.f5 false true false false) := by
  refine returnsInHanded_of_change (C := Try.checked) own started (by kernel_rfl) Try.func5
    (ChangeSpec.witness6 (enc := enc) (C := Try.checked) false ⟨#[], #[.slice none 0 0, .slice none 0 0, .slice none 0 0], []⟩ 8 (by kernel_rfl) (by kernel_rfl) (by kernel_rfl) (by kernel_rfl)) ?_
  intro W base args ds gs before hval0 hW _ _
  have hval : ∀ (j : Nat) t v, Try.f5.params[j]? = some t → args[j]? = some v → Value.okWide Try.prog W .any base t v := hval0
  have hW' := hW
  obtain ⟨p, q, hA0, hV, rfl, _, _⟩ := hW
  have hA : DataW.TrodAll enc Try.prog W 0 (fun _ => true) true Try.f5.params.toList args.toList ds p := hA0
  rw [Try.params5] at hA hval
  obtain ⟨v0, vs0, d0, ds0, p0, q0, hargs, rfl, rfl, h0, r0⟩ := trodAll_cons hA
  obtain ⟨v1, vs1, d1, ds1, p1, q1, rfl, rfl, rfl, h1, r1⟩ := trodAll_cons r0
  obtain ⟨v2, vs2, d2, ds2, p2, q2, rfl, rfl, rfl, h2, r2⟩ := trodAll_cons r1
  obtain ⟨rfl, rfl, rfl⟩ := trodAll_nil r2
  obtain rfl : args = #[v0, v1, v2] := by cases args; simp_all
  obtain ⟨rfl, rfl⟩ := trodVars_none hV
  obtain ⟨xs0, i0, w0⟩ := open_Ints Try.underlying22 Try.underlying3 (by kernel_rfl) (hval 0 22 v0 rfl rfl) h0
  obtain ⟨xs1, i1, w1⟩ := open_Ints Try.underlying22 Try.underlying3 (by kernel_rfl) (hval 1 22 v1 rfl rfl) h1
  obtain ⟨xs2, i2, w2⟩ := open_Ints Try.underlying23 Try.underlying55 (by kernel_rfl) (hval 2 23 v2 rfl rfl) h2
  refine (walk v0 xs0 v1 xs1 v2 xs2 W i0 w0 i1 w1 i2 w2).mono fun e W' ⟨he, hg⟩ => ⟨_, he, ?_⟩
  exact law_post (by kernel_rfl) (by kernel_rfl) rfl Try.underlying4 rfl rfl hW' hg

/-- the statement -/
theorem proved : Rows.PermDoneSaid :=
  OpenClaim.holds_of_wide 5 Try.f5 rfl rfl rfl rfl rfl rfl rfl ⟨rfl, rfl, rfl, rfl, rfl⟩ rfl rfl rfl rfl rfl (by kernel_rfl) Try.func5 (by kernel_rfl)
    (of_decide_eq_true (by kernel_rfl)) (by unfold Func.isWrapper; first | (rw [if_pos (by decide +kernel)]; kernel_rfl) | (rw [if_neg (by decide +kernel)]; exact ⟨rfl, rfl⟩))
    (fun os started H enc _ => lifted os started H enc)
end Go.Proofs.Ytalkbmnbggclpaa.permDone
