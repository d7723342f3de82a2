/- FrameRow: whatever the frames and the bytes behind them, the law answers true, and nothing that was there has turned. No condition. -/
import Derived.Test.YticabjdcegimcaaFrameReads
import Derived.Test.YticabjdcegimcaaFr4
namespace Go.Proofs.Yticabjdcegimcaa.frameRow
open Go.ChangeShapes Go.WideShapes Go.ChangeAt Go.RowKit Go.Maps

def rowL (l : List Frm) : List Int := l.flatMap putL
theorem rowL_app (l l' : List Frm) : rowL (l ++ l') = rowL l ++ rowL l' := by unfold rowL; rw [List.flatMap_append]
theorem rowL_one (f : Frm) : rowL [f] = putL f := by show putL f ++ [] = _; rw [List.append_nil]
theorem rowL_len : ∀ l : List Frm, (∀ f ∈ l, f.body.length ≤ 60) → (rowL l).length ≤ l.length * 492
  | [], _ => Nat.le_refl _
  | f :: l, h => by
    have e : rowL (f :: l) = putL f ++ rowL l := rfl
    have h1 := h f (by simp)
    have h2 := rowL_len l fun x hx => h x (by simp [hx])
    rw [e, List.length_append, putL_len, List.length_cons]
    omega
theorem rowL_byt : ∀ l : List Frm, (∀ f ∈ l, mayF f = true) → Byt (rowL l)
  | [], _ => fun _ h => by cases h
  | f :: l, h => (putL_byt (h f (by simp))).append (rowL_byt l fun x hx => h x (by simp [hx]))
theorem take_f {l : List Frm} {j : Nat} (h : j < l.length) : l.take (j + 1) = l.take j ++ [l.getD j .zero] := by
  rw [List.take_succ_eq_append_getElem h]
  simp [List.getD, h]
theorem drop_f {l : List Frm} {j : Nat} (h : j < l.length) : l.drop j = l.getD j .zero :: l.drop (j + 1) := by
  rw [List.drop_eq_getElem_cons h]
  simp [List.getD, h]
set_option maxRecDepth 100000 in
set_option maxHeartbeats 4000000 in
theorem walk (v : Value) (l : List Frm) (v1 : Value) (xs : List Int) (w : World) (hv : Frs w v l) (ok : ∀ f ∈ l, f.Ok) (hr : Ints .u8 w v1 xs) (wx : ∀ x ∈ xs, (Lit.int .u8 x).wf = true) :
    Calls Try.prog 6 #[v, v1] w (Ret (.bool true) w) := by
  obtain ⟨i0, hi, hz0, hz1, hz2⟩ := info_parts info_u8p
  have hx := byt_of wx
  clear wx
  have HR := hid hr; have HX := hid hx; have HOK := hid ok
  obtain ⟨ar, cr, rfl, r1, r2⟩ := hr.shape
  obtain ⟨a, cap, rfl, h1, h2, h3⟩ := hv
  have H3 := hid h3
  clear h3 hr hx ok
  obtain ⟨N, hN⟩ : ∃ N, l.length = N := ⟨_, rfl⟩
  have HN := hid hN
  rw [hN] at h1 ⊢
  clear hN
  by_cases g1 : 12 < N
  · go_enter Try.func6, Try.ntmps6
    go_wp2_with (go_at_call 7; refine (awake11 _).mono ?_; rintro _ w1 ⟨rfl, x1⟩)
    go_ret
    exact ⟨rfl, x1⟩
  by_cases g2 : 11 < xs.length
  · go_enter Try.func6, Try.ntmps6
    go_wp2_with (go_at_call 7; refine (awake11 _).mono ?_; rintro _ w1 ⟨rfl, x1⟩)
    go_ret
    exact ⟨rfl, x1⟩
  go_enter Try.func6, Try.ntmps6
  go_wp2_with (go_at_call 7; refine (awake11 _).mono ?_; rintro _ w1 ⟨rfl, x1⟩)
  go_loopw [5, 6, 7, 8] (fun b i _ _ wr => ∃ (j : Nat) (r : List Int), i = .int .i64 j ∧ j ≤ N ∧ Hid (r = rowL (l.take j)) ∧ Hid (∀ f ∈ l.take j, mayF f = true ∧ f.body.length ≤ 60) ∧ Hid (wr.ownsRow w1.heap.size 5 1 b r.length (r.map (Value.int .u8))) ∧ Ext w1 wr) (fun _ i _ _ _ => N - (intOf i).toNat)
  case atStart => exact ⟨0, [], rfl, Nat.zero_le _, hid rfl, hid (fun f hf => by cases hf), hid (World.ownsRow_nil _ _ _ _), Ext.refl _⟩
  case round =>
    obtain ⟨j, r, rfl, hj, hrr, hall, ho, hx1⟩ := hrel
    rename World => wr
    have hrl : r.length ≤ 5904 := by
      have := rowL_len (l.take j) (fun f hf => (hall.out f hf).2)
      rw [← hrr.out, List.length_take] at this
      omega
    by_cases hlt : j < N
    · have hw1 : Ext w wr := x1.trans hx1
      obtain ⟨bl, ol, rfl, hbl, hcl⟩ := H3.out (by rw [HN.out]; omega)
      obtain ⟨d0, d1, d2, fu, d3, hfu⟩ := hcl j (by rw [HN.out]; exact hlt)
      have hokj := HOK.out (l.getD j .zero) (by rw [List.getD]; simp [show j < l.length by rw [HN.out]; exact hlt])
      have htk := take_f (l := l) (j := j) (by rw [HN.out]; exact hlt)
      obtain ⟨F, eF⟩ : ∃ F, l.getD j .zero = F := ⟨_, rfl⟩
      rw [eF] at d0 d1 d2 hfu hokj htk
      have HTK := hid htk
      have C0 := (hw1.cells _ _ hbl).trans d0
      have C1 := (hw1.cells _ _ hbl).trans d1
      have C2 := (hw1.cells _ _ hbl).trans d2
      have C3 := (hw1.cells _ _ hbl).trans d3
      have CP := hid fun (W : World) (hW : Ext w W) => frPut F fu W hokj (hfu.ext hW)
      unfold RetPut at CP
      obtain ⟨fa, fc, rfl, q1, q2⟩ := hfu.shape
      clear hcl d0 d1 d2 d3 hfu hokj htk eF
      obtain ⟨BM, eBM⟩ : ∃ b, mayF F = b := ⟨_, rfl⟩
      have HBM := hid eBM
      by_cases h60 : 60 < F.body.length
      · obtain ⟨k, r', m, bd⟩ := F
        replace h60 : 60 < bd.length := h60
        clear CP eBM
        go_wp2_with fail
        go_ret
        exact ⟨rfl, hw1⟩
      cases BM with
      | false =>
        rw [(put_no eBM).1, (put_no eBM).2] at CP
        obtain ⟨k, r', m, bd⟩ := F
        replace h60 : ¬ 60 < bd.length := h60
        replace CP : Hid (∀ W, Ext w W → Calls Try.prog 8 #[.agg #[.int .i64 k, .int .i64 r', .int .u32 m, .slice fa bd.length fc]] W fun e w' => ∃ v, e = .returned (.tuple #[v, .int .i64 1]) ∧ w'.ownsRow W.heap.size 5 1 v 0 [] ∧ Ext W w') := CP
        clear eBM
        go_wp2_with fail
        refine (CP.out _ hw1).mono ?_
        rintro _ w2 ⟨v2, rfl, o2, x2⟩
        obtain ⟨a2, c2, e2, -, -⟩ := own_nums (k := .u8) (xs := []) o2
        subst e2
        clear o2
        go_wp2_with fail
        go_ret
        exact ⟨rfl, hw1.trans x2⟩
      | true =>
        rw [(put_yes eBM).1, (put_yes eBM).2] at CP
        have hpl := putL_len F
        obtain ⟨B, eB⟩ : ∃ B, putL F = B := ⟨_, rfl⟩
        rw [eB] at CP hpl
        have hBl : B.length ≤ 492 := by omega
        have HNX := hid (show r ++ B = rowL (l.take (j + 1)) by rw [HTK.out, rowL_app, rowL_one, eB, hrr.out])
        have HAL := hid (show ∀ f ∈ l.take (j + 1), mayF f = true ∧ f.body.length ≤ 60 by
          rw [HTK.out]
          intro f hf
          rcases List.mem_append.1 hf with h | h
          · exact hall.out f h
          · obtain rfl : f = F := by simpa using h
            exact ⟨eBM, by omega⟩)
        obtain ⟨k, r', m, bd⟩ := F
        replace h60 : ¬ 60 < bd.length := h60
        replace CP : Hid (∀ W, Ext w W → Calls Try.prog 8 #[.agg #[.int .i64 k, .int .i64 r', .int .u32 m, .slice fa bd.length fc]] W fun e w' => ∃ v, e = .returned (.tuple #[v, .int .i64 0]) ∧ w'.ownsRow W.heap.size 5 1 v B.length (B.map (Value.int .u8)) ∧ Ext W w') := CP
        clear eBM hpl eB
        go_wp2_with fail
        refine (CP.out _ hw1).mono ?_
        rintro _ w2 ⟨v2, rfl, o2, x2⟩
        have O2 := hid o2
        have hs2 : w1.heap.size ≤ w2.heap.size := (hx1.trans x2).size
        clear o2
        go_wp2_with (at_builtin; refine wpList_append_k .u8 rfl _ _ 26 rfl w1.heap.size 5 i0 (.int .u8 0) 1 Try.underlying26 hi hz0 hz1 hz2 rfl _ r.length _ rfl (ownsRow_ext ho.out x2) _ B rfl (own_read O2.out) (by simp only [maxLen]; omega) (by omega) hs2 ?_
                     intro v7 w7 hown7 hgrow7
                     have X7 := hid ((hx1.trans x2).grown hgrow7 (fun k e => (ho.out.lt k e).1))
                     have O7 := hid (own_more hown7)
                     clear hown7 hgrow7)
        go_roundw
        case rel => exact ⟨j + 1, r ++ B, by go_num, by omega, HNX, HAL, O7, X7.out⟩
        case measure => simp [intOf]; omega
    · obtain rfl : j = N := by omega
      have hri : r = rowL l := by rw [hrr.out, List.take_of_length_le (by rw [HN.out]; exact Nat.le_refl _)]
      have HALL := hid (show ∀ f ∈ l, mayF f = true ∧ f.body.length ≤ 60 from fun f hf => hall.out f (by rw [List.take_of_length_le (by rw [HN.out]; exact Nat.le_refl _)]; exact hf))
      have HRI := hid hri
      have z1 := x1.trans hx1
      have hs1 := hx1.size
      clear hri hrr hall
      go_wp2_with (at_builtin; refine wpList_append_k .u8 rfl _ _ 26 rfl w1.heap.size 5 i0 (.int .u8 0) 1 Try.underlying26 hi hz0 hz1 hz2 rfl _ r.length _ rfl ho.out _ xs rfl (HR.out.ext z1) (by simp only [maxLen]; omega) (by omega) hs1 ?_
                   intro v5 w5 hown5 hgrow5
                   have x5 : Ext w1 w5 := hx1.grown hgrow5 (fun k e => (ho.out.lt k e).1)
                   have I5 := hid (own_read (own_more hown5))
                   rw [HRI.out] at I5
                   clear hown5 hgrow5)
      have z5 := x1.trans x5
      clear z1 hs1 hx1 x5 ho
      go_loopw [5, 9, 10, 11, 12] (fun b i _ _ _ wr => ∃ (q : Nat), i = .int .i64 q ∧ q ≤ j ∧ Hid (Ints .u8 wr b (rowL (l.drop q) ++ xs)) ∧ Ext w wr) (fun _ i _ _ _ _ => j - (intOf i).toNat)
      case atStart => exact ⟨0, rfl, Nat.zero_le _, I5, z5⟩
      case round =>
        clear I5 z5
        obtain ⟨q, rfl, hq, hI, hxw⟩ := hrel
        rename World => wr
        have hlenA : ∀ q, (rowL (l.drop q)).length ≤ 5904 := fun q => by
          have := rowL_len (l.drop q) (fun f hf => (HALL.out f (List.mem_of_mem_drop hf)).2)
          rw [List.length_drop, HN.out] at this
          have h2 : (j - q) * 492 ≤ 12 * 492 := Nat.mul_le_mul_right _ (by omega)
          omega
        have hbytA : ∀ q, Byt (rowL (l.drop q) ++ xs) := fun q => (rowL_byt _ (fun f hf => (HALL.out f (List.mem_of_mem_drop hf)).1)).append HX.out
        have HLA := hid hlenA; have HBA := hid hbytA
        clear hlenA hbytA
        by_cases hlt : q < j
        · obtain ⟨bl, ol, rfl, hbl, hcl⟩ := H3.out (by rw [HN.out]; omega)
          obtain ⟨d0, d1, d2, fu, d3, hfu⟩ := hcl q (by rw [HN.out]; exact hlt)
          have hmem : l.getD q .zero ∈ l := by rw [List.getD]; simp [show q < l.length by rw [HN.out]; exact hlt]
          have hokj := HOK.out _ hmem
          have hmay := HALL.out _ hmem
          have hdr := drop_f (l := l) (j := q) (by rw [HN.out]; exact hlt)
          obtain ⟨F, eF⟩ : ∃ F, l.getD q .zero = F := ⟨_, rfl⟩
          rw [eF] at d0 d1 d2 hfu hokj hmay hdr
          have hro : rowL (l.drop q) ++ xs = putL F ++ (rowL (l.drop (q + 1)) ++ xs) := by
            rw [hdr, ← List.append_assoc]
            rfl
          have hbq := HBA.out q
          have hlq := HLA.out q
          have hlq1 := HLA.out (q + 1)
          have hI2 := hI.out
          rw [hro] at hI2 hbq
          have hlT : (putL F ++ (rowL (l.drop (q + 1)) ++ xs)).length ≤ 6000 := by rw [← hro, List.length_append]; omega
          obtain ⟨n1, n2, n3⟩ := nx_put hmay.1 hokj (rowL (l.drop (q + 1)) ++ xs)
          have CN := hid fun (W : World) (hW : Ext wr W) (b : Value) (hb : Ints .u8 wr b (putL F ++ (rowL (l.drop (q + 1)) ++ xs))) => frNext b _ W (hb.ext hW) hbq (by omega)
          unfold RetNx at CN
          rw [n1, n2, n3] at CN
          have SF := hid fun (W : World) (v u : Value) (hv : Ints .u64 W v F.body) (hu : Ints .u64 W u F.body) => r11Same F F v u W hv hu
          rw [decide_eq_true (rfl : F = F)] at SF
          have hpl := putL_len F
          have hdrop : (putL F ++ (rowL (l.drop (q + 1)) ++ xs)).drop (12 + 8 * F.body.length) = rowL (l.drop (q + 1)) ++ xs := by rw [← hpl]; exact List.drop_left
          obtain ⟨ab, cb, rfl, t1, t2⟩ := hI2.shape
          obtain ⟨bb, ob, rfl, -, hbb, -⟩ := hI2.cell (by rw [List.length_append]; omega)
          have hL : 12 + 8 * F.body.length ≤ (putL F ++ (rowL (l.drop (q + 1)) ++ xs)).length := by rw [List.length_append]; omega
          have hdq := hid (fun (W : World) (hW : Ext wr W) => (hI2.ext hW).dropq (12 + 8 * F.body.length) hL)
          rw [hdrop] at hdq
          have HI2 := hid hI2
          obtain ⟨fa, fc, rfl, q1, q2⟩ := hfu.shape
          obtain ⟨TT, eTT⟩ : ∃ T, (putL F ++ (rowL (l.drop (q + 1)) ++ xs)) = T := ⟨_, rfl⟩
          obtain ⟨NN, eNN⟩ : ∃ n, TT.length = n := ⟨_, rfl⟩
          rw [eTT] at CN HI2 t1 hL hlT hdq
          have HIs := hid (show Ints .u8 wr (.slice (some ⟨bb, ob, none⟩) TT.length cb) TT from by rw [← eTT]; exact hI2)
          rw [eTT, eNN]
          rw [eNN] at t1 hL hlT hdq HIs
          obtain ⟨L, eL⟩ : ∃ L, 12 + 8 * F.body.length = L := ⟨_, rfl⟩
          obtain ⟨M, eM⟩ : ∃ M, 8 * F.body.length = M := ⟨_, rfl⟩
          have hLM : 12 + M = L := by omega
          rw [eL] at CN hL hdq
          have hMb : M ≤ 480 := by have := hmay.2; omega
          have hIF := hid (fun (W : World) (hW : Ext w W) => hfu.ext hW)
          have HD := hid (fun (W : World) (hW : Ext w W) => (show W.cell? ⟨bl, ol + q * 4, none⟩ = some (.int .i64 F.kind) ∧ W.cell? ⟨bl, ol + q * 4 + 1, none⟩ = some (.int .i64 F.round) ∧ W.cell? ⟨bl, ol + q * 4 + 2, none⟩ = some (.int .u32 F.num) ∧ W.cell? ⟨bl, ol + q * 4 + 3, none⟩ = some (.slice fa F.body.length fc) from
            ⟨(hW.cells _ _ hbl).trans d0, (hW.cells _ _ hbl).trans d1, (hW.cells _ _ hbl).trans d2, (hW.cells _ _ hbl).trans d3⟩))
          clear hcl d0 d1 d2 d3 hfu hokj hmay hdr eF hro hbq hlq hlq1 hI2 n1 n2 n3 hdrop hpl hI HI2 eTT eNN eL hmem
          obtain ⟨k, r', m, bd⟩ := F
          replace q1 : bd.length ≤ fc := q1
          replace eM : 8 * bd.length = M := eM
          have eMi : (8 : Int) * (bd.length : Int) = (M : Int) := by omega
          have eLi : (12 : Int) + (M : Int) = (L : Int) := by omega
          replace CN : Hid (∀ W, Ext wr W → ∀ b, Ints .u8 wr b TT → Calls Try.prog 10 #[b] W fun e w' => ∃ u, e = .returned (.tuple #[.agg #[.int .i64 k, .int .i64 r', .int .u32 m, u], .int .i64 L, .int .i64 0]) ∧ w'.ownsRow W.heap.size 48 1 u bd.length (bd.map (Value.int .u64)) ∧ Ext W w') := CN
          replace SF : Hid (∀ W v u, Ints .u64 W v bd → Ints .u64 W u bd → Calls Try.prog 17 #[.agg #[.int .i64 k, .int .i64 r', .int .u32 m, v], .agg #[.int .i64 k, .int .i64 r', .int .u32 m, u]] W (Ret (.bool true) W)) := SF
          replace HD : Hid (∀ W, Ext w W → W.cell? ⟨bl, ol + q * 4, none⟩ = some (.int .i64 k) ∧ W.cell? ⟨bl, ol + q * 4 + 1, none⟩ = some (.int .i64 r') ∧ W.cell? ⟨bl, ol + q * 4 + 2, none⟩ = some (.int .u32 m) ∧ W.cell? ⟨bl, ol + q * 4 + 3, none⟩ = some (.slice fa bd.length fc)) := HD
          replace hIF : Hid (∀ W, Ext w W → Ints .u64 W (.slice fa bd.length fc) bd) := hIF
          have hb12 : 12 ≤ L := by omega
          have hLcb : L ≤ cb := by omega
          have hwM : IntKind.i64.wrap (M : Int) = (M : Int) := IntWalk.i64_in _ (by omega)
          have hwL : IntKind.i64.wrap (L : Int) = (L : Int) := IntWalk.i64_in _ (by omega)
          have hdec : decide ((L : Int) < 12) = false := by simp; omega
          clear eM hLM
          go_wp2_with fail
          refine (CN.out _ (Ext.refl _) _ HIs.out).mono ?_
          rintro _ w5' ⟨v6, rfl, o6, x6⟩
          obtain ⟨a6, c6, e6, -, -⟩ := own_nums o6
          subst e6
          obtain ⟨w6, hw6⟩ : ∃ w6, w5'.alloc (.cells #[.int .i64 k, .int .i64 r', .int .u32 m, .slice a6 bd.length c6] 25) = w6 := ⟨_, rfl⟩
          have y6 : Ext w5' w6 := hw6 ▸ (Ext.refl w5').alloc _
          have HX6 := hid (show Blk w6 w5'.heap.size 25 #[.int .i64 k, .int .i64 r', .int .u32 m, .slice a6 bd.length c6] from hw6 ▸ Blk.new w5' _ _)
          have IX6 := hid (own_read (ownsRow_ext o6 y6))
          have xw6 := x6.trans y6
          have z6 := hxw.trans xw6
          have IF6 := hid (hIF.out _ z6)
          have HC := hid (fun (w' : World) (h : Ext w6 w') => (show w'.cell? ⟨bl, ol + q * 4, none⟩ = some (.int .i64 k) ∧ w'.cell? ⟨bl, ol + q * 4 + 1, none⟩ = some (.int .i64 r') ∧ w'.cell? ⟨bl, ol + q * 4 + 2, none⟩ = some (.int .u32 m) from ⟨(HD.out w' (z6.trans h)).1, (HD.out w' (z6.trans h)).2.1, (HD.out w' (z6.trans h)).2.2.1⟩))
          have HC3 := hid (fun (w' : World) (h : Ext w6 w') => (HD.out w' (z6.trans h)).2.2.2)
          clear o6
          go_wp2_with fail
          clear hw6
          go_cut [96] from 70 to 95 (fun c w' => c = .bool false ∧ Ext w6 w')
          case first =>
            refine region_ext w6 (by kernel_rfl) (by kernel_rfl) (Ext.refl _) ?_
            iterate 12
              refine wpQuiet_step (fun K hK => ?_)
              go_simp
              refine ⟨_, fun _ _ => rfl, hK _ ?_⟩
              clear hK K
            refine wpQuiet_step (fun K hK => ?_)
            go_simp
            refine ⟨(.slice fa bd.length fc), fun w' h => ?_, hK _ ?_⟩
            · have t3 := HC3.out w' h
              simp [t3, Result.andThen]
            clear hK K
            iterate 6
              refine wpQuiet_step (fun K hK => ?_)
              go_simp
              refine ⟨_, fun _ _ => rfl, hK _ ?_⟩
              clear hK K
            refine wpQuiet_step (fun K hK => ?_)
            go_simp
            refine ⟨(.agg #[.int .i64 k, .int .i64 r', .int .u32 m, .slice a6 bd.length c6]), fun w' h => ?_, hK _ ?_⟩
            · obtain ⟨t0, t1, t2, t3⟩ := (HX6.out.ext h).at4
              simp [t0, t1, t2, t3, Result.andThen]
            clear hK K
            iterate 3
              refine wpQuiet_step (fun K hK => ?_)
              go_simp
              refine ⟨_, fun _ _ => rfl, hK _ ?_⟩
              clear hK K
            refine wpQuiet_step (fun K hK => ?_)
            go_simp
            refine ⟨(.agg #[.int .i64 k, .int .i64 r', .int .u32 m, .slice fa bd.length fc]), fun w' h => ?_, hK _ ?_⟩
            · obtain ⟨t0, t1, t2⟩ := HC.out w' h
              have t3 := HC3.out w' h
              simp [t0, t1, t2, t3, Result.andThen]
            clear hK K
            refine wpQuiet_step (fun K hK => ?_)
            go_simp
            refine ⟨(.bool true), fun w' h => ?_, hK _ ?_⟩
            · exact quiet_e h (SF.out _ _ _ (IX6.out.ext h) (IF6.out.ext h))
            clear hK K
            iterate 2
              refine wpQuiet_step (fun K hK => ?_)
              go_simp
              refine ⟨_, fun _ _ => rfl, hK _ ?_⟩
              clear hK K
            refine wpQuiet_nil ?_
            intro w' hw'
            go_wp2_with fail
            go_meet
            exact ⟨by simp, hw'⟩
          case rest =>
            obtain ⟨rfl, xc⟩ := hcut
            rename World => Wc
            have hdc := hdq.out Wc (xw6.trans xc)
            have zc := z6.trans xc
            clear HIs hdq CN SF HC HC3 HD
            by_cases hcL : cb = L
            · rw [if_pos hcL, show cb - L = 0 by omega] at hdc
              have HDC := hid hdc
              clear hdc
              go_wp2_with fail
              go_roundw
              case rel => exact ⟨q + 1, by go_num, by omega, HDC, zc⟩
              case measure => simp [intOf]; omega
            · rw [if_neg hcL, Option.map_some, add_plain] at hdc
              have HDC := hid (show Ints .u8 Wc (.slice (some ⟨bb, ob + L, none⟩) (NN - L) (cb - L)) (rowL (l.drop (q + 1)) ++ xs) from hdc)
              clear hdc
              go_wp2_with fail
              go_roundw
              case rel => exact ⟨q + 1, by go_num, by omega, HDC, zc⟩
              case measure => simp [intOf]; omega
        · obtain rfl : q = j := by omega
          have hI2 := hI.out
          rw [List.drop_of_length_le (by rw [HN.out]; exact Nat.le_refl _)] at hI2
          replace hI2 : Ints .u8 wr _ xs := hI2
          have he := nextE_short (xs := xs) (by omega)
          obtain ⟨e1, e2⟩ := nx_no he (by omega)
          have CN := hid fun (W : World) (hW : Ext wr W) => frNext _ xs W (hI2.ext hW) HX.out (by omega)
          unfold RetNx at CN
          rw [e1, e2, he] at CN
          have hstr := hid (fun (W : World) (hW : Ext wr W) => str_bytes (hI2.ext hW))
          have hstr2 := hid (fun (W : World) (hW : Ext w W) => str_bytes (HR.out.ext hW))
          obtain ⟨ab, cb, rfl, t1, t2⟩ := hI2.shape
          replace CN : Hid (∀ W, Ext wr W → Calls Try.prog 10 #[.slice ab xs.length cb] W fun e w' => ∃ u, e = .returned (.tuple #[.agg #[.int .i64 0, .int .i64 0, .int .u32 0, u], .int .i64 0, .int .i64 3]) ∧ w'.ownsRow W.heap.size 48 1 u 0 [] ∧ Ext W w') := CN
          clear hI hI2 he e1 e2
          go_wp2_with fail
          refine (CN.out _ (Ext.refl _)).mono ?_
          rintro _ w6 ⟨v6, rfl, o6, x6⟩
          obtain ⟨a6, c6, e6, -, -⟩ := own_nums (k := .u64) (xs := []) o6
          subst e6
          have x7 := x6.alloc (.cells #[.int .i64 0, .int .i64 0, .int .u32 0, .slice a6 0 c6] 25)
          have s1 := hstr.out _ x7
          have s2 := hstr2.out _ (hxw.trans x7)
          clear o6
          go_wp2_with fail
          go_ret
          exact ⟨ret_bool (by simp), hxw.trans x7⟩
theorem own : ownKnob Try.prog.godebug = none := by kernel_rfl
set_option maxRecDepth 100000 in
theorem lifted (os : Os) (started : os.Started) (H : Type) (enc : TypeId × Value → H) :
    ReturnsInHanded {} Try.checked os 6 .any (Rows.frameRowSpec.pre6 enc Try.prog Try.f6 Rows.frameRowRow.domain false) (Rows.frameRowSpec.post enc Try.prog Try.f6 false true false false) := by
  refine returnsInHanded_of_change (C := Try.checked) own started (by kernel_rfl) Try.func6
    (ChangeSpec.witness6 (enc := enc) (C := Try.checked) false ⟨#[], #[.slice none 0 0, .slice none 0 0], []⟩ 8 (by kernel_rfl) (by kernel_rfl) (by kernel_rfl) (by kernel_rfl)) ?_
  intro W base args ds gs before hval0 hW _ _
  have hval : ∀ (j : Nat) t v, Try.f6.params[j]? = some t → args[j]? = some v → Value.okWide Try.prog W .any base t v := hval0
  have hW' := hW
  obtain ⟨p, q, hA0, hV, rfl, _, _⟩ := hW
  have hA : DataW.TrodAll enc Try.prog W 0 (fun _ => true) true Try.f6.params.toList args.toList ds p := hA0
  rw [Try.params6] at hA hval
  obtain ⟨v0, vs0, d0, ds0, p0, q0, hargs, rfl, rfl, h0, r0⟩ := trodAll_cons hA
  obtain ⟨v1, vs1, d1, ds1, p1, q1, rfl, rfl, rfl, h1, r1⟩ := trodAll_cons r0
  obtain ⟨rfl, rfl, rfl⟩ := trodAll_nil r1
  obtain rfl : args = #[v0, v1] := by cases args; simp_all
  obtain ⟨rfl, rfl⟩ := trodVars_none hV
  obtain ⟨l0, fi0, ok0⟩ := open_Frames (hval 0 46 v0 rfl rfl) h0
  obtain ⟨xs1, i1, w1⟩ := open_Ints Try.underlying26 Try.underlying5 (by kernel_rfl) (hval 1 26 v1 rfl rfl) h1
  refine (walk v0 l0 v1 xs1 W fi0 ok0 i1 w1).mono fun e W' ⟨he, hg⟩ => ⟨_, he, ?_⟩
  exact law_post (by kernel_rfl) (by kernel_rfl) rfl Try.underlying4 rfl rfl hW' hg

/-- the statement -/
theorem proved : Rows.FrameRowSaid :=
  OpenClaim.holds_of_wide 6 Try.f6 rfl rfl rfl rfl rfl rfl rfl ⟨rfl, rfl, rfl, rfl, rfl⟩ rfl rfl rfl rfl rfl (by kernel_rfl) Try.func6 (by kernel_rfl)
    (of_decide_eq_true (by kernel_rfl)) (by unfold Func.isWrapper; first | (rw [if_pos (by decide +kernel)]; kernel_rfl) | (rw [if_neg (by decide +kernel)]; exact ⟨rfl, rfl⟩))
    (fun os started H enc _ => lifted os started H enc)
end Go.Proofs.Yticabjdcegimcaa.frameRow
