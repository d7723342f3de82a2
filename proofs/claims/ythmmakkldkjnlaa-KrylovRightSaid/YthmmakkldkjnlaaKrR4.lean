/- The document's own answers of layer 9: least. -/
import Derived.Test.YthmmakkldkjnlaaLeastL
import Derived.Test.YthmmakkldkjnlaaR7Take
import Derived.Test.YthmmakkldkjnlaaBun15
import Derived.StillTailTactics
namespace Go.Proofs.Ythmmakkldkjnlaa
open Go.RowKit Go.Maps

set_option maxRecDepth 100000 in
set_option maxHeartbeats 4000000 in
theorem r9Least (p : Int) (N wd q : Nat) (L : Nat → List Int) (bl cap : Nat) (w : World) (A : Nat → RowF) (V : RowF → Prop) (g : List Int) (hp : rightB p = true) (hf : Fld p) (hN : N ≤ 64) (hNc : N ≤ cap) (hcap : cap ≤ 9223372036854775807) (hwd : 1 ≤ wd ∧ wd ≤ 64) (hL : ∀ k, k < N → (L k).length = wd ∧ Rng p (L k))
    (hrows : ∀ k, k < N → ∃ a c, (∀ W, Ext w W → W.cell? ⟨bl, k, none⟩ = some (.slice a wd c)) ∧ Ints .u64 w (.slice a wd c) (L k)) (hK : Tells p q wd A V fun k => lf (L k)) (hg : IsOwn p q A V g) (hgl : g.length ≤ N) :
    Calls Try.prog 44 #[.int .u64 p, .slice (some ⟨bl, 0, none⟩) N cap] w (RetL g w) := by
  have hp2 := rightB_true hp
  have hg0 := List.length_pos_iff.2 hg.ne
  obtain ⟨i0, hi, hz0, hz1, hz2⟩ := info_parts info_u64p
  have CT := hid fun (n : Nat) (hn : 1 ≤ n ∧ n ≤ N) (W : World) (z : Value) (hz : Ints .u64 W z (tab (n * wd) (cellsF wd L))) => r7TakeC p n wd z _ W (cells_ok hp (by omega) hwd fun k hk => (hL k (by omega)).2) hf hz
  have HC := hid fun (n : Nat) (hn : n < g.length) => cells_all (n := n) hp2.1 hf (fun k hk => hL k (by omega)) (hK.ind hp2.1 hg hn)
  have HD := hid fun (r : Nat) (hr : g.length = r + 1) => cells_last (r := r) hp2.1 hf (fun k hk => hL k (by omega)) (hK.ind hp2.1 hg (by omega)) (by have := hK.dep hp2.1 hg; rwa [hr] at this)
  have HO := hid fun (r : Nat) (st : ElE) (left out : List Int) (hr : g.length = r + 1) (b : LBack p wd r L st 0 left out) => least_out hp2.1 hK hg hr b
  have HRW := hid hrows; have HLL := hid hL
  obtain ⟨T, eT⟩ : ∃ T, g.length = T := ⟨_, rfl⟩
  rw [eT] at HC HD HO hgl hg0
  obtain ⟨G, hG⟩ : ∃ G, cellsF wd L = G := ⟨_, rfl⟩
  have HG := hid hG
  rw [hG] at CT HC HD
  have HN := hid (fun (i : Nat) (hi : i < N) => (show tab (i * wd) G ++ L i = tab ((i + 1) * wd) G from hG ▸ cells_next (hL i hi).1))
  clear hrows hK hg hL hG hf eT
  unfold matV at CT
  unfold RetT7C at CT
  go_enter Try.func44, Try.ntmps44
  go_wp2_with fail
  go_loopw [5] (fun nv wr => ∃ n : Nat, nv = .int .i64 n ∧ 1 ≤ n ∧ n ≤ T ∧ Hid (Ext w wr)) (fun nv _ => N + 1 - (intOf nv).toNat)
  case atStart => exact ⟨1, rfl, Nat.le_refl _, hg0, hid (Ext.refl _)⟩
  case round =>
    obtain ⟨n, rfl, hn1, hnT, HX⟩ := hrel
    rename World => wr
    have hnN : (n : Int) ≤ (N : Int) := by omega
    have t1 : decide ((n : Int) ≤ (N : Int)) = true := decide_eq_true hnN
    have t1' : decide (n ≤ N) = true := decide_eq_true (by omega)
    obtain ⟨ar0, cr0, cell0, -⟩ := HRW.out 0 (by omega)
    have b0 := cell0 wr HX.out
    have hN0 : (0 : Int) < (N : Int) := by omega
    go_wp2_with fail
    obtain ⟨w1, hw1⟩ : ∃ w1, wr.alloc (.cells #[.int .i64 (n : Int), .int .i64 (wd : Int), .slice none 0 0] 25) = w1 := ⟨_, rfl⟩
    have hB0 := Blk.new wr 25 #[.int .i64 (n : Int), .int .i64 (wd : Int), .slice none 0 0]
    have x1 := (Ext.refl wr).alloc (.cells #[.int .i64 (n : Int), .int .i64 (wd : Int), .slice none 0 0] 25)
    rw [hw1] at hB0 x1
    rw [hw1]
    obtain ⟨h, hh⟩ : ∃ h, wr.heap.size = h := ⟨_, rfl⟩
    have hhw : wr.heap.size ≤ h := by omega
    rw [hh] at hB0
    rw [hh]
    have HB0 := hid (show Bld wr w1 h w1.heap.size n wd (.slice none 0 0) 0 G from ⟨hB0, World.ownsRow_nil _ _ _ _, x1, x1.size, hhw⟩)
    clear hw1 hh hB0 x1 b0 cell0
    go_loopw [7] (fun iv wi => ∃ (i t : Nat) (rv : Value), iv = .int .i64 i ∧ i ≤ n ∧ Hid (t = i * wd) ∧ Hid (Bld wr wi h w1.heap.size n wd rv t G) ∧ w1.heap.size ≤ wi.heap.size) (fun iv _ => n - (intOf iv).toNat)
    case atStart => exact ⟨0, 0, _, rfl, Nat.zero_le _, hid (by simp), HB0, Nat.le_refl _⟩
    case round =>
      clear HB0
      obtain ⟨i, t, rv, rfl, hi', ht, HB, hsz⟩ := hrel
      rename World => wi
      by_cases hlt : i < n
      · obtain ⟨ai, ci, celli, Ii⟩ := HRW.out i (by omega)
        have bi := celli wi (HX.out.trans HB.out.ext)
        have HI := hid (Ii.ext (HX.out.trans HB.out.ext))
        have hiN : (i : Int) < (N : Int) := by omega
        have happ := hid (show ((tab t G).map (Value.int .u64)) ++ (L i).map (Value.int .u64) = (tab (t + wd) G).map (Value.int .u64) by
          rw [← List.map_append, ht.out, HN.out i (by omega), Nat.succ_mul])
        have htb : t + wd ≤ 4096 := by
          have h1 : i * wd + wd ≤ n * wd := by rw [← Nat.succ_mul]; exact Nat.mul_le_mul_right _ hlt
          have h2 : n * wd ≤ 64 * 64 := Nat.mul_le_mul (by omega) hwd.2
          have := ht.out
          omega
        have HLi := hid (HLL.out i (by omega)).1
        obtain ⟨o0, o1, o2⟩ := HB.out.box.at3
        have of := HB.out.box.frozen 2
        have Hown := hid (ownsRow_ext HB.out.own ((Ext.refl wi).drew))
        have Hsz := hid (show w1.heap.size ≤ wi.drew.heap.size from Nat.le_trans hsz (Ext.refl wi).drew.size)
        obtain ⟨bi', oi', rfl, hbi, -⟩ : ∃ b o, ai = some ⟨b, o, none⟩ ∧ True ∧ True := by
          obtain ⟨a', c', e, _, _, h3⟩ := Ii
          obtain ⟨b', o', e2, _, _⟩ := h3 (by rw [HLi.out]; omega)
          injection e with e1 _ _
          exact ⟨b', o', by rw [e1, e2], trivial, trivial⟩
        clear celli Ii hbi
        go_wp2_with fail
        refine wp_region_still_tail 6 (by kernel_rfl) (by kernel_rfl) ?_
        simp only [List.take_succ_cons, List.take_zero, List.drop_succ_cons, List.drop_zero]
        change wpStill _ _ wi.drew _ _ _
        iterate 6 still_step
        refine wpStill_nil ?_
        change wpList _ _ _ _ _ wi.drew
        go_wp2_with (first
          | (at_builtin; refine wpList_append_own _ rfl _ _ 23 rfl w1.heap.size 22 i0 (.int .u64 0) 1 8 Try.underlying23 hi hz0 hz1 hz2 rfl (by decide) _ _ _ rfl Hown.out ⟨bi', oi', none⟩ wd ci ((L i).map (Value.int .u64)) rfl (by simp [HLi.out]) (ints_news (HI.out.ext ((Ext.refl wi).drew))) ints_one (by simp only [maxLen]; omega) (by omega) Hsz.out ?_
             intro v6 w6 hown6 hgrow6 hat6
             have hb6 := (HB.out.ext' (Ext.refl wi).drew).box' hgrow6
             have o6 := hb6.1
             have f6 := hb6.2
             rw [happ.out] at hown6
             have Hown6 := hid hown6
             obtain ⟨a6, c6, rfl, q2, q3, q4, q5⟩ := WRow.of_owns hown6
             clear q5 q4 hown6 hb6)
          | fail)
        all_goals
          have e5 : Ext wi wi.drew := (Ext.refl wi).drew
          have hs5 := e5.size
          have hs6 := hgrow6.size
          have hB5 := HB.out.ext' e5
          go_wp2_with fail
          go_roundw
          case rel => exact ⟨i + 1, t + wd, _, by go_num, by omega, hid (by rw [ht.out, Nat.succ_mul]), hid (hB5.more Hown6.out hgrow6), by simp only [World.setCell, Array.size_modify]; omega⟩
          case measure => simp [intOf]; omega
      · obtain rfl : n = i := by omega
        obtain ⟨o0, o1, o2⟩ := HB.out.box.at3
        have htt := ht.out
        subst htt
        obtain ⟨am, cm, rfl, -, -, -, -⟩ := own_slice HB.out.own
        have hI := hid (own_ints HB.out.own)
        obtain ⟨Q, hQ⟩ : ∃ Q, n * wd = Q := ⟨_, rfl⟩
        have CT' := hid (CT.out n ⟨hn1, by omega⟩ wi (.slice am (n * wd) cm) hI.out)
        obtain ⟨st, est⟩ : ∃ st, takeL p n wd (tab (n * wd) G) = st := ⟨_, rfl⟩
        rw [est] at CT'
        have EST := hid est
        rw [hQ] at CT' o2
        have X9 := hid (HX.out.trans HB.out.ext)
        clear est hQ ht
        go_wp2_with fail
        refine CT'.out.mono ?_
        rintro _ w5 ⟨rv, cv, a1, l1, c1, a2, l2, c2, D, ds, rfl, ir, ic, e1, hcell, hD, x5⟩
        obtain ⟨ar, cr, rfl, -, -, -⟩ := ir
        obtain ⟨ac, cc, rfl, -, -, -⟩ := ic
        obtain ⟨zc, ezc⟩ : ∃ z, (colsZ st).length = z := ⟨_, rfl⟩
        rw [ezc]
        clear ezc
        have hZ : (rowsZ st).length = st.rows.length := by simp [rowsZ]
        rw [hZ]
        obtain ⟨zn, ezn⟩ : ∃ z, st.rows.length = z := ⟨_, rfl⟩
        rw [ezn]
        have EZN := hid ezn
        have HCE := hid hcell; have HD5 := hid hD; have E1 := hid e1
        clear CT' o0 o1 o2 hZ ezn hcell hD e1 CT
        have hb8 := Blk.new w5 78 #[.slice ar zn cr, .slice ac zc cc, .slice a1 l1 c1, .slice a2 l2 c2]
        have x8 := (Ext.refl w5).alloc (.cells #[.slice ar zn cr, .slice ac zc cc, .slice a1 l1 c1, .slice a2 l2 c2] 78)
        obtain ⟨p0, p1, p2, p3⟩ := hb8.at4
        by_cases hnT : n < T
        · have hz : zn = n := by rw [← EZN.out, ← EST.out]; exact HC.out n hnT
          subst hz
          clear hb8
          go_wp2_with fail
          go_roundw
          case rel => exact ⟨zn + 1, by go_num, by omega, by omega, hid (X9.out.trans (x5.trans x8))⟩
          case measure => simp [intOf]; omega
        · obtain ⟨r, hr⟩ : ∃ r, n = r + 1 := ⟨n - 1, by omega⟩
          have hTr : T = r + 1 := by omega
          have hd := HD.out r hTr
          rw [← hr, EST.out] at hd
          obtain ⟨hLE, hrow⟩ := hd
          rw [EZN.out] at hrow
          obtain rfl : zn = r := hrow
          have hlc := hLE.lc
          obtain rfl : n = l1 := by rw [E1.out, hlc, hr]
          obtain ⟨gc, rfl, hgc, hcc⟩ := HCE.out (by omega)
          have hlu := hLE.lu
          have hDl := hid (fun k (hk : k < zn) => (show k < (D.getD k []).length ∧ (D.getD k []).length ≤ zn from by
            have h1 := HD5.out k (by omega)
            have h2 := (hLE.len k hk).1
            have h3 := h1.2.2.1
            have h4 := h1.2.1
            omega))
          have hDz : (D.getD zn []).length = zn := by
            have h1 := HD5.out zn (by omega)
            have h2 := hLE.last
            have h3 := h1.2.2.1
            have h4 := h1.2.1
            omega
          have hDC : D.getD zn [] = st.C.getD zn [] := list_ext (by rw [hDz, hLE.last]) fun j _ => (HD5.out zn (by omega)).2.2.2 j
          have hIz := (HD5.out zn (by omega)).1
          have hcz := hcc zn (by omega)
          have HIZ := hid hIz
          obtain ⟨az, cz, ez, hza1, hza2, -⟩ := hIz
          rw [hDz] at ez hza1
          rw [ez] at hcz HIZ
          rw [hDC] at HIZ
          have HLE := hid hLE; have HDC := hid hcc
          have tne : ((zn : Int) == (n : Int)) = false := by rw [beq_eq_false_iff_ne]; omega
          have hnz : (n : Int) - 1 = (zn : Int) := by omega
          have hzn1 : (zn : Int) < (n : Int) := by omega
          have hzz : (zn : Int) - 1 = (zn : Int) - 1 := rfl
          have HB8 := hid hb8
          have hmk := make_ints (P := Try.prog) 23 22 .u64 8 (by omega) (by kernel_rfl) (by kernel_rfl) n n (Nat.le_refl _) (by omega)
          have HR := hid hr; have HTR := hid hTr
          clear hb8 hr hTr hlc hlu hDz hDC hLE ez hzz hcc
          go_upto_region 11 with fail
          clear p0 p1 p2 p3
          obtain ⟨w6, hw6⟩ : ∃ w6, w5.alloc (.cells #[.slice ar zn cr, .slice ac zc cc, .slice (some ⟨gc, 0, none⟩) n c1, .slice a2 l2 c2] 78) = w6 := ⟨_, rfl⟩
          have s6 : w6.heap.size = w5.heap.size + 1 := by rw [← hw6, alloc_size]
          rw [hw6] at x8 HB8
          rw [hw6]
          clear hw6
          go_upto_region 12 with fail
          have hrow0 := WRow.made (w := w6) (t := 22) (n := n) rfl
          have x10 := (Ext.refl w6).alloc (.cells (madeCells #[Value.int .u64 0] n) 22)
          obtain ⟨w7, hw7⟩ : ∃ w7, w6.alloc (.cells (madeCells #[Value.int .u64 0] n) 22) = w7 := ⟨_, rfl⟩
          rw [hw7] at x10 hrow0
          rw [hw7]
          obtain ⟨go, hgo⟩ : ∃ g, w5.heap.size + 1 = g := ⟨_, rfl⟩
          rw [s6, hgo] at hrow0
          rw [hgo] at s6
          rw [hgo]
          clear hw7 hmk
          have HR0 := hid hrow0
          obtain ⟨q1, q2⟩ := hrow0.2 zn (by rw [List.length_replicate]; omega)
          rw [Nat.zero_add] at q1 q2
          clear hrow0
          go_upto_region 13 with fail
          clear q1 q2
          have hrow1 := HR0.out.set_ (i := zn) (by rw [List.length_replicate]; omega) 1
          rw [Nat.zero_add] at hrow1
          have hgo6 : w6.heap.size ≤ go := by omega
          have x11 : Ext w6 (w7.setCell ⟨go, zn, none⟩ (.int .u64 1)) := x10.setCell (p := ⟨go, zn, none⟩) hgo6 _
          obtain ⟨w8, hw8⟩ : ∃ w8, w7.setCell ⟨go, zn, none⟩ (.int .u64 1) = w8 := ⟨_, rfl⟩
          rw [hw8] at hrow1 x11
          rw [hw8]
          have HR1 := hid hrow1
          have X68 := hid x11
          have hcz8 := ((x8.trans x11).cells _ _ hgc).trans hcz
          have HI8 := hid (HIZ.out.ext (x8.trans x11))
          obtain ⟨p0, p1, p2, p3⟩ := (HB8.out.ext x11).at4
          have hs8 := x11.size
          clear hw8 hrow1 x11 x10 HR0
          obtain ⟨LZ, eLZ⟩ : ∃ l, st.C.getD zn [] = l := ⟨_, rfl⟩
          have hLZ : LZ.length = zn := by rw [← eLZ]; exact HLE.out.last
          rw [eLZ] at HI8
          have HI8h := hid HI8
          have HLZ := hid hLZ; have ELZ := hid eLZ
          have hE := hid (World.ownsRow_lit (base := w8.heap.size) (e := 22) (size := 1) w8 #[] 0 (Nat.le_refl _) (by simp [maxLen]) rfl)
          have x9 := (Ext.refl w8).alloc (.cells #[] 22)
          have hgc8 : gc < w8.heap.size := by have := x8.size; omega
          obtain ⟨o0, o1, o2, o3⟩ := (HB8.out.ext (X68.out.trans x9)).at4
          have hcz9 := (x9.cells _ _ hgc8).trans hcz8
          clear HI8 hLZ eLZ x9
          go_upto_region 14 with (at_builtin; (refine wpList_append_ints rfl _ _ 23 rfl w8.heap.size 22 i0 (.int .u64 0) 8 Try.underlying23 hi hz0 hz1 hz2 rfl _ 0 _ rfl hE.out _ LZ rfl (HI8h.out.alloc _) (by simp only [maxLen]; have := HLZ.out; omega) (by have := HLZ.out; omega) (by simp) ?_)
                                  intro v9 w9 hown9 hgrow9)
          have x89 : Ext w8 w9 := ((Ext.refl w8).alloc _).grown hgrow9 (fun k e => by cases e; exact Nat.le_refl _)
          rw [Nat.zero_add, List.nil_append, HLZ.out] at hown9
          obtain ⟨al, cl, rfl, -, -, -, hl3⟩ := WRow.of_owns hown9
          have X69 := hid (X68.out.trans x89)
          have HR9 := hid (HR1.out.ext x89)
          obtain ⟨bl', hb1, hb2, hb3⟩ : ∃ b, (0 < zn → al = some ⟨b, 0, none⟩) ∧ w8.heap.size ≤ b ∧ (0 < zn → WRow w9 b 0 LZ) := by
            by_cases hz : 0 < zn
            · obtain ⟨b, h1, h2, h3⟩ := hl3 hz
              exact ⟨b, fun _ => h1, h2, fun _ => h3⟩
            · exact ⟨w8.heap.size, fun h => absurd h hz, Nat.le_refl _, fun h => absurd h hz⟩
          have HB1 := hid hb1; have HB3 := hid hb3
          have hgo8 := HR1.out.1
          have hbgo : bl' ≠ go := by omega
          have hb6 : w6.heap.size ≤ bl' := by have := X68.out.size; omega
          obtain ⟨s0, s1, s2, s3⟩ := (HB8.out.ext X69.out).at4
          clear hown9 hgrow9 hl3 hb1 hb3 o0 o1 o2 o3 hcz9 p0 p1 p2 p3 hcz8 hE HI8h HR1 HIZ
          go_wp2_with fail
          clear s0 s1 s2 s3
          go_loopw [12, 13] (fun kv _ wr => ∃ (kk : Nat) (kI : Int) (left out : List Int), kv = .int .i64 kI ∧ Hid (kI = (kk : Int) - 1) ∧ -1 ≤ kI ∧ kI < 64 ∧ Hid (kk ≤ zn) ∧ Hid (LBack p wd zn L st kk left out) ∧ Hid (WRow wr go 0 out) ∧ Hid (0 < zn → WRow wr bl' 0 left) ∧ Ext w6 wr) (fun kv _ _ => (intOf kv + 1).toNat)
          case atStart => exact ⟨zn, (zn : Int) - 1, LZ, _, rfl, hid rfl, by omega, by omega, hid (Nat.le_refl _), hid (by rw [HR.out, ← ELZ.out]; exact LBack.start hp2.1 HLE.out), HR9, HB3, X69.out⟩
          case round =>
            clear HR9 HB3
            obtain ⟨kk, kI, left, out, rfl, hkI, hk0, hk1, hkk, HBk, HOt, HLf, hxr⟩ := hrel
            rename World => wr
            by_cases hlt : 0 ≤ kI
            · obtain ⟨k0, rfl⟩ : ∃ k0 : Nat, kI = k0 := Int.eq_ofNat_of_zero_le hlt
              obtain rfl : kk = k0 + 1 := by have := hkI.out; omega
              have hz : 0 < zn := by have := hkk.out; omega
              have hal := HB1.out hz
              subst hal
              have HLw := HLf.out hz
              have hll := HBk.out.ll
              have hlo := HBk.out.lo
              have hkz : k0 < zn := by have := hkk.out; omega
              have cl0 := (HLw.2 k0 (by omega)).1
              obtain ⟨co0, fo0⟩ := HOt.out.2 k0 (by omega)
              rw [Nat.zero_add] at cl0 co0 fo0
              obtain ⟨lk, elk⟩ : ∃ x, left.getD k0 0 = x := ⟨_, rfl⟩
              have hlk := HBk.out.rl.getD hp2.1 k0
              rw [elk] at cl0 hlk
              obtain ⟨r1, er1, r10, r11⟩ := name_mod (p := p) (0 - lk) hp2.1
              have HSub := hid (fun W => rSub p 0 lk r1 W hp (by omega) (by omega) hlk.1 hlk.2 er1)
              have hOn := HOt.out.set_ (i := k0) (by omega) r1
              rw [Nat.zero_add] at hOn
              have HOn := hid hOn
              have HLn := hid (HLw.set_other (b := go) (o := k0) (v := .int .u64 r1) hbgo)
              have HXn := hid (hxr.setCell (p := ⟨go, k0, none⟩) hgo6 (.int .u64 r1))
              have ELK := hid elk; have ER1 := hid er1; have HLL2 := hid hll
              have HRL := hid HBk.out.rl
              clear hOn HLw hll hlo elk er1
              go_wp2_with (go_at_call 14; refine (HSub.out _).mono ?_; rintro _ _ ⟨rfl, rfl⟩)
              clear cl0 co0 fo0
              go_loopw [13] (fun jv wi => ∃ (j : Nat) (lf' : List Int), jv = .int .i64 j ∧ j ≤ k0 ∧ Hid (lf'.length = zn) ∧ Hid (Rng p lf') ∧ Hid (∀ t, t < j → lf'.getD t 0 = (left.getD t 0 - lk * (st.C.getD k0 []).getD t 0 % p) % p) ∧ Hid (∀ t, j ≤ t → lf'.getD t 0 = left.getD t 0) ∧ Hid (WRow wi bl' 0 lf') ∧ Hid (WRow wi go 0 (out.set k0 r1)) ∧ Ext w6 wi) (fun jv _ => k0 - (intOf jv).toNat)
              case atStart => exact ⟨0, left, rfl, Nat.zero_le _, HLL2, HRL, hid (fun t ht => absurd ht (Nat.not_lt_zero t)), hid (fun t _ => rfl), HLn, HOn, HXn.out⟩
              case round =>
                clear HLn HOn HXn
                obtain ⟨j, lf', rfl, hj, hfl, hfr, hfd, hfs, hfw, hfo, hxw⟩ := hrel
                rename World => wi
                by_cases hj2 : j < k0
                · have hrow := HD5.out k0 (by have := HR.out; omega)
                  obtain ⟨hI, -, -, hG2⟩ := hrow
                  obtain ⟨ak, ck, ek, hk1, hk2, hk3⟩ := hI
                  have hdl := hDl.out k0 hkz
                  obtain ⟨bk, ok, rfl, hbk, hck⟩ := hk3 (by omega)
                  have cD := hck j (by omega)
                  have hcC := HDC.out k0 (by have := HR.out; omega)
                  rw [ek] at hcC
                  obtain ⟨M, hM⟩ : ∃ M, (D.getD k0 []).length = M := ⟨_, rfl⟩
                  rw [hM] at hcC hk1 hdl
                  have hjM : j < M := by omega
                  have hjz : j < zn := by omega
                  have hkn : k0 < n := by have := HR.out; omega
                  rw [hG2 j] at cD
                  have hyr := (HLE.out.rng k0 (by omega)).getD hp2.1 j
                  obtain ⟨y, ey⟩ : ∃ y, (st.C.getD k0 []).getD j 0 = y := ⟨_, rfl⟩
                  rw [ey] at cD hyr
                  have xw5 := (x8.trans hxw).drew
                  have d4 := (xw5.cells _ _ hgc).trans hcC
                  have d5 := (xw5.cells _ _ hbk).trans cD
                  have hxd := (Ext.refl wi).drew
                  obtain ⟨e1, f1⟩ := (hfw.out.ext hxd).2 j (by rw [hfl.out]; omega)
                  have e2 := ((hfw.out.ext hxd).2 k0 (by rw [hfl.out]; omega)).1
                  rw [Nat.zero_add] at e1 f1 e2
                  rw [hfs.out k0 (by omega), ELK.out] at e2
                  rw [hfs.out j (Nat.le_refl _)] at e1
                  have hxr0 := HRL.out.getD hp2.1 j
                  obtain ⟨x0, ex0⟩ : ∃ x, left.getD j 0 = x := ⟨_, rfl⟩
                  rw [ex0] at e1 hxr0
                  obtain ⟨g0, g1', g2', g3'⟩ := (HB8.out.ext (hxw.trans hxd)).at4
                  obtain ⟨t1, et1, t10, t11⟩ := name_mod (p := p) (lk * y) hp2.1
                  obtain ⟨t2, et2, t20, t21⟩ := name_mod (p := p) (x0 - t1) hp2.1
                  have HMul := hid (fun W => rMul p lk y t1 W hp hlk.1 hlk.2 hyr.1 (by omega) et1)
                  have HSb := hid (fun W => rSub p x0 t1 t2 W hp hxr0.1 hxr0.2 t10 t11 et2)
                  have hput := hfw.out.set_ (i := j) (by rw [hfl.out]; omega) t2
                  rw [Nat.zero_add] at hput
                  have HPut := hid (hput.ext ((Ext.refl _).drew))
                  have HOut := hid ((hfo.out.set_other (b := bl') (o := j) (v := .int .u64 t2) (fun e => hbgo e.symm)).ext ((Ext.refl _).drew))
                  have HXw := hid ((hxw.setCell (p := ⟨bl', j, none⟩) hb6 (.int .u64 t2)).drew)
                  have ET1 := hid et1; have ET2 := hid et2; have EX0 := hid ex0; have EY := hid ey
                  clear hput hck ek hcC cD hG2 hk1 hk3 et1 et2 ex0 ey hM xw5 hxd hdl
                  go_wp2_with fail
                  refine wp_region_still_tail 23 (by kernel_rfl) (by kernel_rfl) ?_
                  simp only [List.take_succ_cons, List.take_zero, List.drop_succ_cons, List.drop_zero]
                  change wpStill _ _ wi.drew _ _ _
                  iterate 20 still_step
                  still_call ((HMul.out _).mono fun _ _ h => ⟨h.1, h.2.symm⟩)
                  still_call ((HSb.out _).mono fun _ _ h => ⟨h.1, h.2.symm⟩)
                  still_step
                  refine wpStill_nil ?_
                  change wpList _ _ _ _ _ wi.drew
                  all_goals
                    go_wp2_with fail
                    go_roundw
                    case rel =>
                      refine ⟨j + 1, lf'.set j t2, by go_num, by omega, hid (by rw [List.length_set]; exact hfl.out), hid (Rng.of_get fun t ht => ?_), hid (fun t ht => ?_), hid (fun t ht => ?_), HPut, HOut, HXw.out⟩
                      · rw [List.length_set] at ht
                        rw [set_get _ _ _ _ (by rw [hfl.out]; omega)]
                        split
                        · exact ⟨t20, t21⟩
                        · exact hfr.out.getD hp2.1 t
                      · rw [set_get _ _ _ _ (by rw [hfl.out]; omega)]
                        by_cases e : j = t
                        · subst e
                          rw [if_pos rfl, EX0.out, EY.out, ET1.out, ET2.out]
                        · rw [if_neg e]; exact hfd.out t (by omega)
                      · rw [set_get _ _ _ _ (by rw [hfl.out]; omega), if_neg (by omega)]
                        exact hfs.out t (by omega)
                    case measure => simp [intOf]; omega
                · obtain rfl : k0 = j := by omega
                  have hst := hid (LBack.step hp2.1 HLE.out hkz HBk.out hfl.out hfr.out (fun t ht => by rw [ELK.out]; exact hfd.out t ht))
                  have hst2 := hid (show LBack p wd zn L st k0 lf' (out.set k0 r1) by
                    have := hst.out
                    rw [ELK.out, ER1.out] at this
                    exact this)
                  clear hst
                  go_wp2_with fail
                  go_roundw
                  case rel => exact ⟨k0, (k0 : Int) - 1, lf', out.set k0 r1, rfl, hid rfl, by omega, by omega, hid (by omega), hst2, hfo, hid (fun _ => hfw.out), hxw⟩
                  case measure => first | (simp [intOf]; done) | (simp [intOf]; omega)
            · obtain rfl : kI = -1 := by omega
              obtain rfl : kk = 0 := by have := hkI.out; omega
              have hog := hid (HO.out zn st left out HTR.out HBk.out)
              have hlo := HBk.out.lo
              have HRf := hid (HR.out ▸ hlo : out.length = n)
              clear hlo
              go_wp2_with fail
              go_ret
              exact ⟨_, rfl, hog.out ▸ HOt.out.ints' HRf.out (Nat.le_refl _) (by omega), (X9.out.trans (x5.trans x8)).trans hxr⟩
end Go.Proofs.Ythmmakkldkjnlaa
