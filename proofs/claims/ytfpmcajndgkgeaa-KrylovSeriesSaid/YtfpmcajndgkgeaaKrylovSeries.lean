/- KrylovSeries: whatever the number, the matrix and the two vectors, the law answers true, and nothing that was there has turned. No condition. -/
import Derived.Test.YtfpmcajndgkgeaaKrylovSeriesS
import Derived.Test.YtfpmcajndgkgeaaLaw9
import Derived.Test.YtfpmcajndgkgeaaKryS
import Derived.Test.YtfpmcajndgkgeaaBun35
import Derived.Test.YtfpmcajndgkgeaaBun06
import Derived.Test.YtfpmcajndgkgeaaBun12
namespace Go.Proofs.Ytfpmcajndgkgeaa.krylovSeries
open Go.ChangeShapes Go.WideShapes Go.ChangeAt Go.RowKit Go.Maps


theorem rule_pol {p : Int} {s d : List Int} (h : RuleIs p s d) : Pol p d.reverse ∧ d.reverse ≠ [] ∧ lead d.reverse = 1 := by
  obtain ⟨d1, d2, d3, d4, d5, d6⟩ := h
  obtain ⟨-, h1, -, h2⟩ := ruleB_iff' d1
  have hl : lead d.reverse = 1 := by
    unfold lead
    rw [List.length_reverse, rev_get d (by omega), show d.length - 1 - (d.length - 1) = 0 by omega]
    exact h2
  refine ⟨⟨fun x hx => d2 x (List.mem_reverse.1 hx), fun _ => ?_⟩, fun e => ?_, hl⟩
  · show lead d.reverse ≠ 0
    rw [hl]; omega
  · have := congrArg List.length e
    rw [List.length_reverse, List.length_nil] at this
    omega
set_option maxRecDepth 100000 in
set_option maxHeartbeats 4000000 in
theorem walk_yes (p : Int) (n : Nat) (v z u : Value) (xs d b : List Int) (w : World) (ok : MatOk p n n xs) (hf : Fld p) (hT : takenB p = true) (hlen : xs.length ≤ 36) (hd : d.length = n) (hrd : Rng p d) (hb : b.length = n) (hr : Rng p b) (hv : Ints .u64 w v xs) (hz : Ints .u64 w z d) (hu : Ints .u64 w u b) :
    Calls Try.prog 7 #[.int .u64 p, matV n n v, z, u] w (Ret (.bool true) w) := by
  have hp2 := rightB_true ok.hp
  obtain ⟨i0, hi, hz0, hz1, hz2⟩ := info_parts info_u64p
  have C1 := hid fun (W : World) => (hT ▸ prime_any09 p W (by omega) : Calls Try.prog 25 #[.int .u64 p] W fun e w' => e = .returned (.bool true) ∧ W = w')
  have C2 := hid fun (W : World) (hW : Ext w W) => (ok.b ▸ mxRight p n n v xs W (by omega) (by omega) (hv.ext hW) ok.u64 : Calls Try.prog 39 #[.int .u64 p, matV n n v] W (Ret (.bool true) W))
  have C3 := hid fun (W : World) (hW : Ext w W) => (hrd.has ok.hp ▸ has_any p z d W (by omega) (by omega) (hz.ext hW) (hrd.u64 hp2.2) : Calls Try.prog 40 #[.int .u64 p, z] W fun e w' => e = .returned (.bool true) ∧ W = w')
  have C5 := hid fun (W : World) (hW : Ext w W) => (hr.has ok.hp ▸ has_any p u b W (by omega) (by omega) (hu.ext hW) (hr.u64 hp2.2) : Calls Try.prog 40 #[.int .u64 p, u] W fun e w' => e = .returned (.bool true) ∧ W = w')
  obtain ⟨g, hg⟩ := OwnL.any (hf.has hp2.1) n xs b
  obtain ⟨h, hh⟩ := MinL.any (hf.has hp2.1) n xs
  have hgl := hg.len (hf.has hp2.1)
  have hhl := hh.len (hf.has hp2.1)
  have hn := ok.hn
  obtain ⟨N, hN⟩ : ∃ N, 2 * n = N := ⟨_, rfl⟩
  have HN := hid hN
  have hNi : (2 : Int) * (n : Int) = (N : Int) := by omega
  have CP := hid fun (W : World) (hW : Ext w W) => krPowers p n N v u xs b W ok (hv.ext hW) (hu.ext hW) hb hr (by omega)
  have CO := hid fun (W : World) (hW : Ext w W) => krOf p n v u xs b g W ok hf (hv.ext hW) (hu.ext hW) hb hr hg
  have CM := hid fun (W : World) (hW : Ext w W) => krMin p n v xs h W ok hf (hv.ext hW) hh
  have CT := hid fun (W : World) (y : Value) (q : List Int) (r : Int) (hW : Ext w W) (hy : Ints .u64 W y q) (hq : q.length = n) (hrq : Rng p q) (hq2 : dotZ d q % p = r) => dot_as p r z y d q W (hz.ext hW) hy (hrd.u64 hp2.2) (hrq.u64 hp2.2) (by rw [hd, hq]) (hrd.has ok.hp) (hrq.has ok.hp) hq2
  have CR := hid fun (W : World) (y : Value) (hy : Ints .u64 W y (serL p n xs d b N)) => sRule_p p y _ W ok.hp hf hy (serL_rng hp2.1 _ _ _ _) (by rw [serL_len]; omega)
  have CY := hid fun (W : World) (y : Value) (q s : List Int) (hy : Ints .u64 W y q) (hq : RuleIs p s q) => sPoly_yes p y q W hy hq.1 (hq.2.1.u64 hp2.2)
  have CV := hid fun (W : World) (y y' : Value) (q s : List Int) (hy : Ints .u64 W y q) (hy' : Ints .u64 W y' s) (hq : Pol p q) (hs : Pol p s) (hl : q.length ≤ 200 ∧ s.length ≤ 200) (hs0 : s ≠ []) (hs1 : lead s = 1) => pDiv_yes p y y' q s W ok.hp hy hy' hq hs (by omega) hs0 (unit_one hf hp2.1 hs1)
  -- what is left
  have R1 := hid fun (q qs rs : List Int) (hq : RuleIs p (serL p n xs d b N) q) (hrs : Pol p rs) (e : pol p h = pol p qs * pol p q.reverse + pol p rs) (hl : rs.length < q.reverse.length) (hql : qs.length = h.length + 1 - q.reverse.length) => rule_div (us := d) (vs := b) hp2.1 hf hd hb (hN.symm ▸ hq) hh.isp hh.ne hh.mon hhl (hh.all _) hrs e hl hql
  have R2 := hid fun (q qs rs : List Int) (hq : RuleIs p (serL p n xs d b N) q) (hrs : Pol p rs) (e : pol p g = pol p qs * pol p q.reverse + pol p rs) (hl : rs.length < q.reverse.length) (hql : qs.length = g.length + 1 - q.reverse.length) => rule_div (us := d) (vs := b) hp2.1 hf hd hb (hN.symm ▸ hq) hg.isp hg.ne hg.mon hgl (hg.kil _ rfl) hrs e hl hql
  have HG := hid hg.isp; have HH := hid hh.isp
  have PL := hid fun (k : Nat) => powL_len (p := p) (xs := xs) hb k
  have PR := hid fun (k : Nat) => powL_rng (n := n) (xs := xs) hp2.1 hr k
  obtain ⟨F, hF⟩ : ∃ F : Nat → Int, (fun k => dotZ d (powL p n xs k b) % p) = F := ⟨_, rfl⟩
  have HF := hid (fun k => (congrFun hF k : dotZ d (powL p n xs k b) % p = F k))
  have HS := hid (show serL p n xs d b N = tab N F by rw [← hF]; rfl)
  have Hp := hid ok.hp; have HR := hid hr; have Hb := hid hb; have HU := hid hu
  have t1 : decide (36 < (xs.length : Int)) = false := decide_eq_false (by omega)
  have t1' : decide (36 < xs.length) = false := decide_eq_false (by omega)
  have t4 : ((n : Int) != (n : Int)) = false := by simp
  have wN : IntKind.i64.wrap ((2 : Int) * (n : Int)) = (N : Int) := by rw [IntKind.wrap_i64]; omega
  have HGL := hid hgl; have HHL := hid hhl
  have hN2 : N ≤ 128 := by omega
  have PG := hid fun (k : Nat) (h : k < N) => (powsL_get (p := p) (n := n) (xs := xs) (v := b) h)
  have PN := hid (powsL_len p n xs b N)
  obtain ⟨LP, hLP⟩ : ∃ L, powsL p n xs b N = L := ⟨_, rfl⟩
  unfold RetPows at CP
  rw [hLP] at CP PG PN
  rw [PN.out] at CP
  obtain ⟨a, cap, rfl, k1, k2, k3⟩ := hv
  obtain ⟨a2, c2, rfl, KD⟩ := partsV hz hd
  obtain ⟨a', cap', rfl, KB⟩ := partsV hu hb
  clear k3 hu hb hr hlen ok hf hT hg hh KB KD hgl hhl hz hd hrd hN hNi hF hLP
  have HA := hid (Blk.new w 25 #[.int .i64 (n : Int), .int .i64 (n : Int), .slice a xs.length cap])
  have hW0 := hid ((Ext.refl w).alloc (.cells #[.int .i64 (n : Int), .int .i64 (n : Int), .slice a xs.length cap] 25))
  unfold matV at C2 CO CM CP
  unfold matV
  unfold RetE at CO CM
  unfold RetDiv at CV
  unfold RetR at CR
  go_enter Try.func7, Try.ntmps7
  go_wp2_with fail
  refine (awake09 _).mono ?_
  rintro _ w1 ⟨rfl, xw1⟩
  obtain ⟨ha_0, ha_1, ha_2⟩ := (HA.out.ext xw1).at3
  go_wp2_with fail
  refine (C1.out _).mono ?_
  rintro _ _ ⟨rfl, rfl⟩
  go_wp2_with fail
  refine (C2.out _ (hW0.out.trans xw1)).mono ?_
  rintro _ w2 ⟨rfl, xw2⟩
  clear ha_0 ha_1 ha_2
  obtain ⟨ha_0, ha_1, ha_2⟩ := (HA.out.ext (xw1.trans xw2)).at3
  go_wp2_with fail
  refine (C3.out _ (hW0.out.trans (xw1.trans xw2))).mono ?_
  rintro _ _ ⟨rfl, rfl⟩
  go_wp2_with fail
  refine (C5.out _ (hW0.out.trans (xw1.trans xw2))).mono ?_
  rintro _ _ ⟨rfl, rfl⟩
  clear C1 C2 C3 C5
  go_wp2_with fail
  refine (CP.out _ (hW0.out.trans (xw1.trans xw2))).mono ?_
  rintro _ w3 ⟨gp, us, rfl, p1, p2, p3, xw3⟩
  have P1 := hid p1; have P2 := hid p2; have P3 := hid p3
  clear p1 p2 p3 CP
  clear ha_0 ha_1 ha_2
  go_wp2_with fail
  go_loopw [11, 12] (fun rv iv wr => ∃ k : Nat, iv = .int .i64 k ∧ k ≤ N ∧ Hid (wr.ownsRow w3.heap.size 22 1 rv k ((tab k F).map (Value.int .u64))) ∧ Hid (Ext w3 wr)) (fun _ iv _ => N - (intOf iv).toNat)
  case atStart => exact ⟨0, rfl, Nat.zero_le _, hid (World.ownsRow_nil _ _ _ _), hid (Ext.refl _)⟩
  case round =>
    obtain ⟨k, rfl, hk, hown, hxk⟩ := hrel
    rename World => wr
    by_cases hlt : k < N
    · obtain ⟨ak, ck, cc, ik⟩ := pows_at (j := k) (by rw [P1.out, PN.out]) P2.out (by rw [PN.out]; exact P3.out) (by rw [PN.out]; exact hlt)
      rw [PG.out k hlt, PL.out] at cc ik
      have cw := cc wr hxk.out
      have hk1 : (k : Int) < (N : Int) := by omega
      have CTK := hid (CT.out wr _ _ (F k) ((hW0.out.trans (xw1.trans (xw2.trans xw3))).trans hxk.out) (ik.ext hxk.out) (PL.out k) (PR.out k) (HF.out k))
      have hlm := hid (show ((tab k F).map (Value.int .u64)) ++ [Value.int .u64 (F k)] = (tab (k + 1) F).map (Value.int .u64) by rw [tab_succ, List.map_append]; rfl)
      obtain ⟨y, ey⟩ : ∃ y, F k = y := ⟨_, rfl⟩
      rw [ey] at CTK hlm
      have hsz := hxk.out.size
      clear cc ik ey
      go_wp2_with fail
      refine CTK.out.mono ?_
      rintro _ w5 ⟨rfl, x5⟩
      have hx5 := hxk.out.trans x5
      have hsz5 := hx5.size
      have hown5 := hid (ownsRow_ext hown.out x5)
      clear cw
      go_wp2_with (first | (at_builtin; refine wpList_append_own _ rfl _ _ 23 rfl w3.heap.size 22 i0 (.int .u64 0) 1 8 Try.underlying23 hi hz0 hz1 hz2 rfl (by decide) _ _ _ rfl (hown5.out.alloc _) ⟨w5.heap.size, 0, none⟩ 1 1 [.int .u64 y] rfl rfl (cells_new _ _ _ (by simp)) (by simp [Value.oneCell']) (by simp only [maxLen]; omega) (by omega) (by simp; omega) ?_; intro v' w6 hown6 hgrow6 hnil6) | fail)
      go_roundw
      case rel => exact ⟨k + 1, by go_num, by omega, hid (by rw [← hlm.out]; exact hown6), hid ((hx5.alloc _).grown hgrow6 (fun t e => (hown5.out.lt t e).1))⟩
      case measure => simp [intOf]; omega
    · obtain rfl : N = k := by omega
      have hsi := own_ints hown.out
      rw [← HS.out] at hsi
      obtain ⟨as', cs', rfl, -⟩ := partsV hsi (serL_len _ _ _ _)
      have IS := hid hsi
      clear hsi hown P3 P2 P1
      obtain ⟨ha_0, ha_1, ha_2⟩ := (HA.out.ext (xw1.trans (xw2.trans (xw3.trans hxk.out)))).at3
      go_wp2_with fail
      refine (CM.out _ (hW0.out.trans (xw1.trans (xw2.trans (xw3.trans hxk.out))))).mono ?_
      rintro _ w7 ⟨vh, rfl, ih, xw7⟩
      clear ha_0 ha_1 ha_2
      have IH := hid ih
      obtain ⟨ah, ch, rfl, -, -, -⟩ := ih
      obtain ⟨ha_0, ha_1, ha_2⟩ := (HA.out.ext (xw1.trans (xw2.trans (xw3.trans (hxk.out.trans xw7))))).at3
      go_wp2_with fail
      refine (CO.out _ (hW0.out.trans (xw1.trans (xw2.trans (xw3.trans (hxk.out.trans xw7)))))).mono ?_
      rintro _ w8 ⟨vg, rfl, ig, xw8⟩
      clear ha_0 ha_1 ha_2
      have IG := hid ig
      obtain ⟨ag, cg, rfl, -, -, -⟩ := ig
      clear CM CO
      go_wp2_with fail
      refine (CR.out _ _ (IS.out.ext (xw7.trans xw8))).mono ?_
      rintro _ w9 ⟨ar, cr, nr, q, rfl, lq, iq, xw9, hq⟩
      obtain ⟨q1, q2, q3⟩ := rule_pol hq.out
      have hql := hq.out.2.2.2.1
      rw [serL_len] at hql
      obtain ⟨Y, eY⟩ : ∃ Y, q.reverse = Y := ⟨_, rfl⟩
      have hyl : Y.length ≤ N + 1 := by rw [← eY, List.length_reverse]; exact hql
      have HQL := hid hyl
      have CYK := hid fun (W : World) (y : Value) (hy : Ints .u64 W y q) => CY.out W y q _ hy hq.out
      have S1 := hid fun (qs rs : List Int) => R1.out q qs rs hq.out
      have S2 := hid fun (qs rs : List Int) => R2.out q qs rs hq.out
      rw [eY] at q1 q2 q3 CYK S1 S2
      have Q1 := hid q1; have Q2 := hid q2; have Q3 := hid q3
      clear q1 q2 q3 hql eY hyl
      go_wp2_with fail
      refine (CYK.out _ _ iq.out).mono ?_
      rintro _ w10 ⟨vq, rfl, iy, xw10⟩
      have IY := hid iy
      obtain ⟨aq, cq, rfl, -, -, -⟩ := iy
      go_wp2_with fail
      refine (CV.out _ _ _ _ _ (IH.out.ext (xw8.trans (xw9.trans xw10))) IY.out HH.out Q1.out (by have := HQL.out; have := HHL.out; omega) Q2.out Q3.out).mono ?_
      rintro _ w11 ⟨va, ua, qa, ra, rfl, -, ia, -, pa, ea, la, ma, xw11, -, -⟩
      have hra := S1.out _ _ pa ea la ma
      subst hra
      obtain ⟨aa, ka, rfl, -⟩ := partsV ia (n := 0) rfl
      clear ia pa ea la ma
      go_wp2_with fail
      refine (CV.out _ _ _ _ _ (IG.out.ext (xw9.trans (xw10.trans xw11))) (IY.out.ext xw11) HG.out Q1.out (by have := HQL.out; have := HGL.out; omega) Q2.out Q3.out).mono ?_
      rintro _ w12 ⟨vb, ub, qb, rb, rfl, -, ib, -, pb, eb, lb, mb, xw12, -, -⟩
      have hrb := S2.out _ _ pb eb lb mb
      subst hrb
      obtain ⟨ab, kb, rfl, -⟩ := partsV ib (n := 0) rfl
      clear ib pb eb lb mb
      go_wp2_with fail
      go_ret
      exact ⟨rfl, (hW0.out.trans (xw1.trans (xw2.trans (xw3.trans (hxk.out.trans (xw7.trans (xw8.trans (xw9.trans (xw10.trans (xw11.trans xw12))))))))))⟩

/-- the law answers true -/
theorem walk (p r c : Int) (v : Value) (xs : List Int) (z : Value) (d : List Int) (u : Value) (b : List Int) (w : World) (hp : (Lit.int .u64 p).wf = true) (_ : (Lit.int .i64 r).wf = true) (_ : (Lit.int .i64 c).wf = true) (hv : Ints .u64 w v xs) (hx : ∀ x ∈ xs, (Lit.int .u64 x).wf = true) (hz : Ints .u64 w z d) (hzw : ∀ x ∈ d, (Lit.int .u64 x).wf = true) (hu : Ints .u64 w u b) (hy : ∀ x ∈ b, (Lit.int .u64 x).wf = true) :
    Calls Try.prog 7 #[.int .u64 p, .agg #[.int .i64 r, .int .i64 c, v], z, u] w (Ret (.bool true) w) := by
  have hx' : U64s xs := fun x h => u64_wf (hx x h)
  have hd' : U64s d := fun x h => u64_wf (hzw x h)
  have hy' : U64s b := fun x h => u64_wf (hy x h)
  cases h : goB p r c xs d b with
  | false => exact walk_skip p r c v z u xs d b w (u64_wf hp).1 (u64_wf hp).2 hv hx' hz hd' hu hy' h
  | true =>
    unfold goB at h
    simp only [Bool.and_eq_true, decide_eq_true_eq] at h
    obtain ⟨h1, h3, h4, h5, h6, h7, h8, h9⟩ := h
    obtain ⟨m, n, rfl, rfl, ok⟩ := MatOk.of hx' h4
    obtain rfl : m = n := by omega
    obtain ⟨_, h10⟩ := hasB_true h6
    obtain ⟨_, h11⟩ := hasB_true h7
    exact walk_yes p m v z u xs d b w ok (taken_fld h3) h3 h1 (by omega) (fun x hx => ⟨(hd' x hx).1, h10 x hx⟩) (by omega) (fun x hx => ⟨(hy' x hx).1, h11 x hx⟩) hv hz hu

theorem own : ownKnob Try.prog.godebug = none := by kernel_rfl
set_option maxRecDepth 100000 in
theorem lifted (os : Os) (started : os.Started) (H : Type) (enc : TypeId × Value → H) :
    ReturnsInHanded {} Try.checked os 7 .any (Rows.krylovSeriesSpec.pre6 enc Try.prog Try.f7 Rows.krylovSeriesRow.domain false) (Rows.krylovSeriesSpec.post enc Try.prog Try.f7 false true false false) := by
  refine returnsInHanded_of_change (C := Try.checked) own started (by kernel_rfl) Try.func7
    (ChangeSpec.witness6 (enc := enc) (C := Try.checked) false ⟨#[], #[.int .u64 0, .agg #[.int .i64 0, .int .i64 0, .slice none 0 0], .slice none 0 0, .slice none 0 0], []⟩ 8 (by kernel_rfl) (by kernel_rfl) (by kernel_rfl) (by kernel_rfl)) ?_
  intro W base args ds gs before hval0 hW _ _
  have hval : ∀ (j : Nat) t v, Try.f7.params[j]? = some t → args[j]? = some v → Value.okWide Try.prog W .any base t v := hval0
  have hW' := hW
  obtain ⟨p, q, hA0, hV, rfl, _, _⟩ := hW
  have hA : DataW.TrodAll enc Try.prog W 0 (fun _ => true) true Try.f7.params.toList args.toList ds p := hA0
  rw [Try.params7] at hA hval
  obtain ⟨v0, vs0, d0, ds0, p0, q0, hargs, rfl, rfl, h0, r0⟩ := trodAll_cons hA
  obtain ⟨v1, vs1, d1, ds1, p1, q1, rfl, rfl, rfl, h1, r1⟩ := trodAll_cons r0
  obtain ⟨v2, vs2, d2, ds2, p2, q2, rfl, rfl, rfl, h2, r2⟩ := trodAll_cons r1
  obtain ⟨v3, vs3, d3, ds3, p3, q3, rfl, rfl, rfl, h3, r3⟩ := trodAll_cons r2
  obtain ⟨rfl, rfl, rfl⟩ := trodAll_nil r3
  obtain rfl : args = #[v0, v1, v2, v3] := by cases args; simp_all
  obtain ⟨rfl, rfl⟩ := trodVars_none hV
  obtain ⟨a0, rfl, rfl, rfl, w0⟩ := open_int Try.underlying22 (hval 0 22 v0 rfl rfl) h0
  obtain ⟨mr1, mc1, mu1, xs1, rfl, wr1, wc1, i1, w1⟩ := open_Mat (hval 1 25 v1 rfl rfl) h1
  obtain ⟨xs2, i2, w2⟩ := open_Ints Try.underlying23 Try.underlying22 (by kernel_rfl) (hval 2 23 v2 rfl rfl) h2
  obtain ⟨xs3, i3, w3⟩ := open_Ints Try.underlying23 Try.underlying22 (by kernel_rfl) (hval 3 23 v3 rfl rfl) h3
  refine (walk a0 mr1 mc1 mu1 xs1 v2 xs2 v3 xs3 W w0 wr1 wc1 i1 w1 i2 w2 i3 w3).mono fun e W' ⟨he, hg⟩ => ⟨_, he, ?_⟩
  exact law_post (by kernel_rfl) (by kernel_rfl) rfl Try.underlying4 rfl rfl hW' hg

/-- the statement -/
theorem proved : Rows.KrylovSeriesSaid :=
  OpenClaim.holds_of_wide 7 Try.f7 rfl rfl rfl rfl rfl rfl rfl ⟨rfl, rfl, rfl, rfl, rfl⟩ rfl rfl rfl rfl rfl (by kernel_rfl) Try.func7 (by kernel_rfl)
    (of_decide_eq_true (by kernel_rfl)) (by unfold Func.isWrapper; first | (rw [if_pos (by decide +kernel)]; kernel_rfl) | (rw [if_neg (by decide +kernel)]; exact ⟨rfl, rfl⟩))
    (fun os started H enc _ => lifted os started H enc)
end Go.Proofs.Ytfpmcajndgkgeaa.krylovSeries
