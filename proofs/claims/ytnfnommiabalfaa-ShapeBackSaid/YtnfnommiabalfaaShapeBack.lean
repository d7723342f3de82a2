/- ShapeBack: whatever the claim, the rows, the columns and the numbers, the law answers true, and nothing that was there has turned. No condition. -/
import Derived.Test.YtnfnommiabalfaaBun22
import Derived.Test.YtnfnommiabalfaaOpenClm
namespace Go.Proofs.Ytnfnommiabalfaa.shapeBack
open Go.ChangeShapes Go.WideShapes Go.ChangeAt Go.RowKit Go.Maps

theorem nums_u64 {R K : List Int} {C U : List (List Int)} (hR : R.length ≤ 70) (hC : ∀ l ∈ C, U64s l) (hU : ∀ l ∈ U, U64s l) : U64s (numsL R K C U) := fun x hx => by
  have hw : ∀ y : Int, 0 ≤ IntKind.u64.wrap y ∧ IntKind.u64.wrap y ≤ 18446744073709551615 := fun y => by rw [u64_wrap]; omega
  unfold numsL at hx
  rcases List.mem_cons.1 hx with rfl | hx
  · omega
  rcases List.mem_append.1 hx with hx | hx
  · obtain ⟨y, _, rfl⟩ := List.mem_map.1 hx; exact hw y
  rcases List.mem_append.1 hx with hx | hx
  · obtain ⟨y, _, rfl⟩ := List.mem_map.1 hx; exact hw y
  rcases List.mem_append.1 hx with hx | hx
  · obtain ⟨y, hy, hxy⟩ := List.mem_flatten.1 hx; exact hC y hy x hxy
  · obtain ⟨y, hy, hxy⟩ := List.mem_flatten.1 hx; exact hU y hy x hxy
theorem flat_le {ls : List (List Int)} (h : ∀ j, j < ls.length → (ls.getD j []).length ≤ 70) : ls.flatten.length ≤ ls.length * 70 := by
  induction ls with
  | nil => simp
  | cons l t ih =>
    have h0 := h 0 (by simp)
    have h1 := ih fun j hj => by have := h (j + 1) (by simpa using hj); simpa using this
    simp only [List.flatten_cons, List.length_append, List.length_cons]
    have h0' : l.length ≤ 70 := by simpa using h0
    omega
theorem nums_le {R K : List Int} {C U : List (List Int)} (h : shortC R K C U = true) : (numsL R K C U).length ≤ 100000 ∧ R.length ≤ 70 := by
  unfold shortC rows70 at h
  simp only [Bool.and_eq_true, decide_eq_true_eq] at h
  obtain ⟨⟨⟨h1, h2⟩, h3, h4⟩, h5, h6⟩ := h
  have := flat_le h3
  have := flat_le h4
  unfold numsL
  simp only [List.length_cons, List.length_append, List.length_map]
  omega
/-- a claim that has the shape is read as it was -/
theorem back_calls {p rows cols : Int} {R K : List Int} {C U : List (List Int)} (h : ShpZ p rows cols R K C U) (hs : shortC R K C U = true) (hR : ∀ x ∈ R, x ≤ 9223372036854775807) (hK : ∀ x ∈ K, x ≤ 9223372036854775807)
    (hC : ∀ l ∈ C, U64s l) (hU : ∀ l ∈ U, U64s l) (W : World) (z : Value) (hz : Ints .u64 W z (numsL R K C U)) : Calls Try.prog 21 #[z, .int .i64 rows, .int .i64 cols] W (RetClm R K C U W) := by
  obtain ⟨m', n', rs, ks, e1, e2, _, _, _, eR, eK, _, _, _⟩ := id h
  obtain ⟨m, n, rfl, rfl, ok, l1, l2⟩ := h.ok
  have hu := nums_u64 (K := K) (nums_le hs).2 hC hU
  have nn : ∀ l : List Nat, ∀ x ∈ natsZ l, 0 ≤ x := fun l x hx => by
    obtain ⟨k, _, rfl⟩ := List.mem_map.1 hx
    omega
  obtain ⟨f1, f2, f3, f4, f5, f6⟩ := of_nums (m := m) (n := n) l1 l2 ok.lc (fun l hl => (ok.c l hl).1) (fun l hl => (ok.u l hl).1) (fun x hx => ⟨nn rs x (eR ▸ hx), hR x hx⟩) (fun x hx => ⟨nn ks x (eK ▸ hx), hK x hx⟩)
  have hb : ofB m n (numsL R K C U) = true := (ofB_iff hu).2 ⟨m, n, rfl, rfl, ok.hm, ok.hn, by rw [f2, ← l1]; rfl, by rw [f2]; exact ok.hu, by rw [f2]; exact f1⟩
  have := shOf_yes W m n z (numsL R K C U) hz hu hb
  rwa [f3, f4, f5, f6] at this
set_option maxRecDepth 100000 in
set_option maxHeartbeats 4000000 in
theorem walk (rv kv cv uv : Value) (R K : List Int) (C U : List (List Int)) (rows cols : Int) (v : Value) (l : List Int) (w : World) (hc : ClmR w rv kv cv uv R K C U) (wR : ∀ x ∈ R, (Lit.int .i64 x).wf = true) (wK : ∀ x ∈ K, (Lit.int .i64 x).wf = true) (wC : ∀ l ∈ C, ∀ x ∈ l, (Lit.int .u64 x).wf = true) (wU : ∀ l ∈ U, ∀ x ∈ l, (Lit.int .u64 x).wf = true)
    (_ : (Lit.int .i64 rows).wf = true) (_ : (Lit.int .i64 cols).wf = true) (hv : Ints .u64 w v l) (wl : ∀ x ∈ l, (Lit.int .u64 x).wf = true) :
    Calls Try.prog 5 #[.agg #[rv, kv, cv, uv], .int .i64 rows, .int .i64 cols, v] w (Ret (.bool true) w) := by
  have hR : ∀ x ∈ R, x ≤ 9223372036854775807 := fun x hx => by have := i64_wf (wR x hx); omega
  have hK : ∀ x ∈ K, x ≤ 9223372036854775807 := fun x hx => by have := i64_wf (wK x hx); omega
  have hC : ∀ l ∈ C, U64s l := fun l hl x hx => by have := u64_wf (wC l hl x hx); omega
  have hU : ∀ l ∈ U, U64s l := fun l hl x hx => by have := u64_wf (wU l hl x hx); omega
  have hl : U64s l := fun x hx => by have := u64_wf (wl x hx); omega
  have CS := hid fun (W : World) (hW : Ext w W) => r13Short rv kv cv uv R K C U W (hc.ext hW)
  have CH1 := hid fun (W : World) (hW : Ext w W) => shHas 11 R K C U rv kv cv uv W rows cols (by decide) (by decide) (hc.ext hW) hC hU
  have CH2 := hid fun (W : World) (hW : Ext w W) => shHas 2305843009213693951 R K C U rv kv cv uv W rows cols (by decide) (by decide) (hc.ext hW) hC hU
  obtain ⟨S, eS⟩ : ∃ S, shortC R K C U = S := ⟨_, rfl⟩
  obtain ⟨B1, e1⟩ : ∃ B, shpB 11 rows cols R K C U = B := ⟨_, rfl⟩
  obtain ⟨B2, e2⟩ : ∃ B, shpB 2305843009213693951 rows cols R K C U = B := ⟨_, rfl⟩
  obtain ⟨O, eO⟩ : ∃ B, ofB rows cols l = B := ⟨_, rfl⟩
  rw [eS] at CS; rw [e1] at CH1; rw [e2] at CH2
  have CN := hid fun (hs : S = true) (W : World) (hW : Ext w W) => shNumbers R K C U rv kv cv uv W (nums_le (eS.trans hs)).1 (hc.ext hW)
  have CO := hid fun (hs : S = true) (hb : B1 = true ∨ B2 = true) (W : World) (z : Value) (hz : Ints .u64 W z (numsL R K C U)) => (show Calls Try.prog 21 #[z, .int .i64 rows, .int .i64 cols] W (RetClm R K C U W) from by
    rcases hb with hb | hb
    · exact back_calls (shpB_iff.1 (e1.trans hb)) (eS.trans hs) hR hK hC hU W z hz
    · exact back_calls (shpB_iff.1 (e2.trans hb)) (eS.trans hs) hR hK hC hU W z hz)
  have CT := hid fun (W : World) (hW : Ext w W) (a b c d : Value) (h : ClmR W a b c d R K C U) => (show Calls Try.prog 15 #[.agg #[rv, kv, cv, uv], .agg #[a, b, c, d]] W (Ret (.bool true) W) from (sameC_iff.2 ⟨rfl, rfl, rfl, rfl⟩ : sameC R K C U R K C U = true) ▸ r13Same rv kv cv uv a b c d R K C U R K C U W (hc.ext hW) h)
  have DN := hid fun (hO : O = false) (W : World) (hW : Ext w W) => shOf_no W rows cols v l (hv.ext hW) hl (eO.trans hO)
  have DY := hid fun (hO : O = true) => (show ∃ (R' K' : List Int) (C' U' : List (List Int)), (∀ W, Ext w W → Calls Try.prog 21 #[v, .int .i64 rows, .int .i64 cols] W (RetClm R' K' C' U' W)) ∧
      (∀ (W : World) (a b c d : Value), l.length ≤ 300 → ClmR W a b c d R' K' C' U' → Calls Try.prog 22 #[.agg #[a, b, c, d]] W (fun e w' => ∃ v, e = .returned v ∧ Ints .u64 w' v l ∧ Ext W w')) from by
    obtain ⟨m, n, rfl, rfl, hm, hn, h0, h64, hlen⟩ := (ofB_iff hl).1 (eO.trans hO)
    have hnu := nums_of (m := m) (n := n) hl h0 hlen
    refine ⟨ofR l, ofK l, ofC m l, ofU m n l, fun W hW => shOf_yes W m n v l (hv.ext hW) hl (eO.trans hO), fun W a b c d h3 h => ?_⟩
    have := shNumbers _ _ _ _ a b c d W (by rw [hnu]; omega) h
    rwa [hnu] at this)
  have CE := hid fun (W : World) (z : Value) (hW : Ext w W) (hz : Ints .u64 W z l) => same_yes z v l W hz (hv.ext hW)
  obtain ⟨⟨a1, k1, rfl⟩, ⟨a2, k2, rfl⟩, ⟨a3, k3, rfl⟩, ⟨a4, k4, rfl⟩⟩ := hc.slices
  obtain ⟨al, kl, rfl, -, -, -⟩ := hv
  obtain ⟨nl, enl⟩ : ∃ n, l.length = n := ⟨_, rfl⟩
  rw [enl] at DN DY CE ⊢
  have HA := hid (Blk.new w 29 #[.slice a1 R.length k1, .slice a2 K.length k2, .slice a3 C.length k3, .slice a4 U.length k4])
  have hW0 := hid ((Ext.refl w).alloc (.cells #[.slice a1 R.length k1, .slice a2 K.length k2, .slice a3 C.length k3, .slice a4 U.length k4] 29))
  obtain ⟨w0, hw0⟩ : ∃ W, w.alloc (.cells #[.slice a1 R.length k1, .slice a2 K.length k2, .slice a3 C.length k3, .slice a4 U.length k4] 29) = W := ⟨_, rfl⟩
  rw [hw0] at HA hW0
  clear hc wR wK wC wU wl hR hK hC hU hl eS e1 e2 eO enl
  go_enter Try.func5, Try.ntmps5
  go_wp2_with fail
  refine (awake13 _).mono ?_
  rintro _ w1 ⟨rfl, xw1⟩
  obtain ⟨ha_0, ha_1, ha_2, ha_3⟩ := (HA.out.ext xw1).at4
  go_wp2_with fail
  refine (CS.out _ (hW0.out.trans xw1)).mono ?_
  rintro _ w2 ⟨rfl, xw2⟩
  clear ha_0 ha_1 ha_2 ha_3
  cases S
  · go_wp2_with fail
    go_ret
    exact ⟨rfl, (hW0.out.trans (xw1.trans xw2))⟩
  by_cases h3 : nl ≤ 300
  case neg =>
    go_wp2_with fail
    go_ret
    exact ⟨rfl, (hW0.out.trans (xw1.trans xw2))⟩
  obtain ⟨ha_0, ha_1, ha_2, ha_3⟩ := (HA.out.ext (xw1.trans xw2)).at4
  go_wp2_with fail
  refine (CH1.out _ (hW0.out.trans (xw1.trans xw2))).mono ?_
  rintro _ w3 ⟨rfl, xw3⟩
  clear ha_0 ha_1 ha_2 ha_3
  cases B1
  · obtain ⟨ha_0, ha_1, ha_2, ha_3⟩ := (HA.out.ext (xw1.trans (xw2.trans xw3))).at4
    go_wp2_with fail
    refine (CH2.out _ (hW0.out.trans (xw1.trans (xw2.trans xw3)))).mono ?_
    rintro _ w3b ⟨rfl, xw3b⟩
    clear ha_0 ha_1 ha_2 ha_3
    cases B2
    · cases O
      · go_wp2_with fail
        refine (DN.out (by trivial) _ (hW0.out.trans (xw1.trans (xw2.trans (xw3.trans xw3b))))).mono ?_
        rintro _ w8 ⟨rfl, xw8⟩
        unfold noClm
        have z7 := (Ext.refl w8).alloc (.cells #[.slice none 0 0, .slice none 0 0, .slice none 0 0, .slice none 0 0] 29)
        have HN := hid (Blk.new w8 29 #[.slice none 0 0, .slice none 0 0, .slice none 0 0, .slice none 0 0])
        obtain ⟨hn_0, hn_1, hn_2, hn_3⟩ := HN.out.at4
        go_wp2_with fail
        go_ret
        exact ⟨rfl, (hW0.out.trans (xw1.trans (xw2.trans (xw3.trans (xw3b.trans (xw8.trans z7))))))⟩
      · obtain ⟨R', K', C', U', D1, D2⟩ := DY.out (by trivial)
        have D1 := hid D1; have D2 := hid D2
        go_wp2_with fail
        refine (D1.out _ (hW0.out.trans (xw1.trans (xw2.trans (xw3.trans xw3b))))).mono ?_
        rintro _ w8 ⟨rv8, kv8, cv8, uv8, rfl, cl, xw8⟩
        have CL8 := hid cl
        obtain ⟨⟨b1, l1, rfl⟩, ⟨b2, l2, rfl⟩, ⟨b3, l3, rfl⟩, ⟨b4, l4, rfl⟩⟩ := cl.slices
        clear cl
        have z7 := (Ext.refl w8).alloc (.cells #[.slice b1 R'.length l1, .slice b2 K'.length l2, .slice b3 C'.length l3, .slice b4 U'.length l4] 29)
        have HN := hid (Blk.new w8 29 #[.slice b1 R'.length l1, .slice b2 K'.length l2, .slice b3 C'.length l3, .slice b4 U'.length l4])
        obtain ⟨hn_0, hn_1, hn_2, hn_3⟩ := HN.out.at4
        go_wp2_with fail
        refine (D2.out _ _ _ _ _ h3 (CL8.out.ext z7)).mono ?_
        rintro _ w9 ⟨v9, rfl, i9, xw9⟩
        clear hn_0 hn_1 hn_2 hn_3
        have I9 := hid i9
        obtain ⟨a9, k9, rfl, _, _, kk⟩ := i9
        clear kk
        go_wp2_with fail
        refine (CE.out _ _ (hW0.out.trans (xw1.trans (xw2.trans (xw3.trans (xw3b.trans (xw8.trans (z7.trans xw9))))))) I9.out).mono ?_
        rintro _ w10 ⟨rfl, xw10⟩
        go_wp2_with fail
        go_ret
        exact ⟨rfl, (hW0.out.trans (xw1.trans (xw2.trans (xw3.trans (xw3b.trans (xw8.trans (z7.trans (xw9.trans xw10))))))))⟩
    · obtain ⟨ha_0, ha_1, ha_2, ha_3⟩ := (HA.out.ext (xw1.trans (xw2.trans (xw3.trans xw3b)))).at4
      go_wp2_with fail
      refine (CN.out (by trivial) _ (hW0.out.trans (xw1.trans (xw2.trans (xw3.trans xw3b))))).mono ?_
      rintro _ w4 ⟨v4, rfl, i4, xw4⟩
      clear ha_0 ha_1 ha_2 ha_3
      have I4 := hid i4
      obtain ⟨a5, k5, rfl, _, _, kk⟩ := i4
      clear kk
      go_wp2_with fail
      refine (CO.out (by trivial) (by simp) _ _ I4.out).mono ?_
      rintro _ w5 ⟨rv5, kv5, cv5, uv5, rfl, cl, xw5⟩
      have CL5 := hid cl
      obtain ⟨⟨c1, m1, rfl⟩, ⟨c2, m2, rfl⟩, ⟨c3, m3, rfl⟩, ⟨c4, m4, rfl⟩⟩ := cl.slices
      clear cl
      have z8 := (Ext.refl w5).alloc (.cells #[.slice c1 R.length m1, .slice c2 K.length m2, .slice c3 C.length m3, .slice c4 U.length m4] 29)
      have HD := hid (Blk.new w5 29 #[.slice c1 R.length m1, .slice c2 K.length m2, .slice c3 C.length m3, .slice c4 U.length m4])
      obtain ⟨ha_0, ha_1, ha_2, ha_3⟩ := (HA.out.ext (xw1.trans (xw2.trans (xw3.trans (xw3b.trans (xw4.trans (xw5.trans z8))))))).at4
      obtain ⟨hd_0, hd_1, hd_2, hd_3⟩ := HD.out.at4
      go_wp2_with fail
      refine (CT.out _ (hW0.out.trans (xw1.trans (xw2.trans (xw3.trans (xw3b.trans (xw4.trans (xw5.trans z8))))))) _ _ _ _ (CL5.out.ext z8)).mono ?_
      rintro _ w6 ⟨rfl, xw6⟩
      clear ha_0 ha_1 ha_2 ha_3 hd_0 hd_1 hd_2 hd_3
      cases O
      · go_wp2_with fail
        refine (DN.out (by trivial) _ (hW0.out.trans (xw1.trans (xw2.trans (xw3.trans (xw3b.trans (xw4.trans (xw5.trans (z8.trans xw6))))))))).mono ?_
        rintro _ w8 ⟨rfl, xw8⟩
        unfold noClm
        have z11 := (Ext.refl w8).alloc (.cells #[.slice none 0 0, .slice none 0 0, .slice none 0 0, .slice none 0 0] 29)
        have HN := hid (Blk.new w8 29 #[.slice none 0 0, .slice none 0 0, .slice none 0 0, .slice none 0 0])
        obtain ⟨hn_0, hn_1, hn_2, hn_3⟩ := HN.out.at4
        go_wp2_with fail
        go_ret
        exact ⟨rfl, (hW0.out.trans (xw1.trans (xw2.trans (xw3.trans (xw3b.trans (xw4.trans (xw5.trans (z8.trans (xw6.trans (xw8.trans z11))))))))))⟩
      · obtain ⟨R', K', C', U', D1, D2⟩ := DY.out (by trivial)
        have D1 := hid D1; have D2 := hid D2
        go_wp2_with fail
        refine (D1.out _ (hW0.out.trans (xw1.trans (xw2.trans (xw3.trans (xw3b.trans (xw4.trans (xw5.trans (z8.trans xw6))))))))).mono ?_
        rintro _ w8 ⟨rv8, kv8, cv8, uv8, rfl, cl, xw8⟩
        have CL8 := hid cl
        obtain ⟨⟨b1, l1, rfl⟩, ⟨b2, l2, rfl⟩, ⟨b3, l3, rfl⟩, ⟨b4, l4, rfl⟩⟩ := cl.slices
        clear cl
        have z11 := (Ext.refl w8).alloc (.cells #[.slice b1 R'.length l1, .slice b2 K'.length l2, .slice b3 C'.length l3, .slice b4 U'.length l4] 29)
        have HN := hid (Blk.new w8 29 #[.slice b1 R'.length l1, .slice b2 K'.length l2, .slice b3 C'.length l3, .slice b4 U'.length l4])
        obtain ⟨hn_0, hn_1, hn_2, hn_3⟩ := HN.out.at4
        go_wp2_with fail
        refine (D2.out _ _ _ _ _ h3 (CL8.out.ext z11)).mono ?_
        rintro _ w9 ⟨v9, rfl, i9, xw9⟩
        clear hn_0 hn_1 hn_2 hn_3
        have I9 := hid i9
        obtain ⟨a9, k9, rfl, _, _, kk⟩ := i9
        clear kk
        go_wp2_with fail
        refine (CE.out _ _ (hW0.out.trans (xw1.trans (xw2.trans (xw3.trans (xw3b.trans (xw4.trans (xw5.trans (z8.trans (xw6.trans (xw8.trans (z11.trans xw9))))))))))) I9.out).mono ?_
        rintro _ w10 ⟨rfl, xw10⟩
        go_wp2_with fail
        go_ret
        exact ⟨rfl, (hW0.out.trans (xw1.trans (xw2.trans (xw3.trans (xw3b.trans (xw4.trans (xw5.trans (z8.trans (xw6.trans (xw8.trans (z11.trans (xw9.trans xw10))))))))))))⟩
  · obtain ⟨ha_0, ha_1, ha_2, ha_3⟩ := (HA.out.ext (xw1.trans (xw2.trans xw3))).at4
    go_wp2_with fail
    refine (CN.out (by trivial) _ (hW0.out.trans (xw1.trans (xw2.trans xw3)))).mono ?_
    rintro _ w4 ⟨v4, rfl, i4, xw4⟩
    clear ha_0 ha_1 ha_2 ha_3
    have I4 := hid i4
    obtain ⟨a5, k5, rfl, _, _, kk⟩ := i4
    clear kk
    go_wp2_with fail
    refine (CO.out (by trivial) (by simp) _ _ I4.out).mono ?_
    rintro _ w5 ⟨rv5, kv5, cv5, uv5, rfl, cl, xw5⟩
    have CL5 := hid cl
    obtain ⟨⟨c1, m1, rfl⟩, ⟨c2, m2, rfl⟩, ⟨c3, m3, rfl⟩, ⟨c4, m4, rfl⟩⟩ := cl.slices
    clear cl
    have z7 := (Ext.refl w5).alloc (.cells #[.slice c1 R.length m1, .slice c2 K.length m2, .slice c3 C.length m3, .slice c4 U.length m4] 29)
    have HD := hid (Blk.new w5 29 #[.slice c1 R.length m1, .slice c2 K.length m2, .slice c3 C.length m3, .slice c4 U.length m4])
    obtain ⟨ha_0, ha_1, ha_2, ha_3⟩ := (HA.out.ext (xw1.trans (xw2.trans (xw3.trans (xw4.trans (xw5.trans z7)))))).at4
    obtain ⟨hd_0, hd_1, hd_2, hd_3⟩ := HD.out.at4
    go_wp2_with fail
    refine (CT.out _ (hW0.out.trans (xw1.trans (xw2.trans (xw3.trans (xw4.trans (xw5.trans z7)))))) _ _ _ _ (CL5.out.ext z7)).mono ?_
    rintro _ w6 ⟨rfl, xw6⟩
    clear ha_0 ha_1 ha_2 ha_3 hd_0 hd_1 hd_2 hd_3
    cases O
    · go_wp2_with fail
      refine (DN.out (by trivial) _ (hW0.out.trans (xw1.trans (xw2.trans (xw3.trans (xw4.trans (xw5.trans (z7.trans xw6)))))))).mono ?_
      rintro _ w8 ⟨rfl, xw8⟩
      unfold noClm
      have z10 := (Ext.refl w8).alloc (.cells #[.slice none 0 0, .slice none 0 0, .slice none 0 0, .slice none 0 0] 29)
      have HN := hid (Blk.new w8 29 #[.slice none 0 0, .slice none 0 0, .slice none 0 0, .slice none 0 0])
      obtain ⟨hn_0, hn_1, hn_2, hn_3⟩ := HN.out.at4
      go_wp2_with fail
      go_ret
      exact ⟨rfl, (hW0.out.trans (xw1.trans (xw2.trans (xw3.trans (xw4.trans (xw5.trans (z7.trans (xw6.trans (xw8.trans z10)))))))))⟩
    · obtain ⟨R', K', C', U', D1, D2⟩ := DY.out (by trivial)
      have D1 := hid D1; have D2 := hid D2
      go_wp2_with fail
      refine (D1.out _ (hW0.out.trans (xw1.trans (xw2.trans (xw3.trans (xw4.trans (xw5.trans (z7.trans xw6)))))))).mono ?_
      rintro _ w8 ⟨rv8, kv8, cv8, uv8, rfl, cl, xw8⟩
      have CL8 := hid cl
      obtain ⟨⟨b1, l1, rfl⟩, ⟨b2, l2, rfl⟩, ⟨b3, l3, rfl⟩, ⟨b4, l4, rfl⟩⟩ := cl.slices
      clear cl
      have z10 := (Ext.refl w8).alloc (.cells #[.slice b1 R'.length l1, .slice b2 K'.length l2, .slice b3 C'.length l3, .slice b4 U'.length l4] 29)
      have HN := hid (Blk.new w8 29 #[.slice b1 R'.length l1, .slice b2 K'.length l2, .slice b3 C'.length l3, .slice b4 U'.length l4])
      obtain ⟨hn_0, hn_1, hn_2, hn_3⟩ := HN.out.at4
      go_wp2_with fail
      refine (D2.out _ _ _ _ _ h3 (CL8.out.ext z10)).mono ?_
      rintro _ w9 ⟨v9, rfl, i9, xw9⟩
      clear hn_0 hn_1 hn_2 hn_3
      have I9 := hid i9
      obtain ⟨a9, k9, rfl, _, _, kk⟩ := i9
      clear kk
      go_wp2_with fail
      refine (CE.out _ _ (hW0.out.trans (xw1.trans (xw2.trans (xw3.trans (xw4.trans (xw5.trans (z7.trans (xw6.trans (xw8.trans (z10.trans xw9)))))))))) I9.out).mono ?_
      rintro _ w10 ⟨rfl, xw10⟩
      go_wp2_with fail
      go_ret
      exact ⟨rfl, (hW0.out.trans (xw1.trans (xw2.trans (xw3.trans (xw4.trans (xw5.trans (z7.trans (xw6.trans (xw8.trans (z10.trans (xw9.trans xw10)))))))))))⟩


theorem own : ownKnob Try.prog.godebug = none := by kernel_rfl
set_option maxRecDepth 100000 in
theorem lifted (os : Os) (started : os.Started) (H : Type) (enc : TypeId × Value → H) :
    ReturnsInHanded {} Try.checked os 5 .any (Rows.shapeBackSpec.pre6 enc Try.prog Try.f5 Rows.shapeBackRow.domain false) (Rows.shapeBackSpec.post enc Try.prog Try.f5 false true false false) := by
  refine returnsInHanded_of_change (C := Try.checked) own started (by kernel_rfl) Try.func5
    (ChangeSpec.witness6 (enc := enc) (C := Try.checked) false ⟨#[], #[.agg #[.slice none 0 0, .slice none 0 0, .slice none 0 0, .slice none 0 0], .int .i64 0, .int .i64 0, .slice none 0 0], []⟩ 8 (by kernel_rfl) (by kernel_rfl) (by kernel_rfl) (by kernel_rfl)) ?_
  intro W base args ds gs before hval0 hW _ _
  have hval : ∀ (j : Nat) t v, Try.f5.params[j]? = some t → args[j]? = some v → Value.okWide Try.prog W .any base t v := hval0
  have hW' := hW
  obtain ⟨p, q, hA0, hV, rfl, _, _⟩ := hW
  have hA : DataW.TrodAll enc Try.prog W 0 (fun _ => true) true Try.f5.params.toList args.toList ds p := hA0
  rw [Try.params5] at hA hval
  obtain ⟨v0, vs0, d0, ds0, p0, q0, hargs, rfl, rfl, h0, r0⟩ := trodAll_cons hA
  obtain ⟨v1, vs1, d1, ds1, p1, q1, rfl, rfl, rfl, h1, r1⟩ := trodAll_cons r0
  obtain ⟨v2, vs2, d2, ds2, p2, q2, rfl, rfl, rfl, h2, r2⟩ := trodAll_cons r1
  obtain ⟨v3, vs3, d3, ds3, p3, q3, rfl, rfl, rfl, h3, r3⟩ := trodAll_cons r2
  obtain ⟨rfl, rfl, rfl⟩ := trodAll_nil r3
  obtain rfl : args = #[v0, v1, v2, v3] := by cases args; simp_all
  obtain ⟨rfl, rfl⟩ := trodVars_none hV
  obtain ⟨rv0, kv0, cv0, uv0, R0, K0, C0, U0, rfl, cm0, wR0, wK0, wC0, wU0⟩ := open_Cup (hval 0 29 v0 rfl rfl) h0
  obtain ⟨a1, rfl, rfl, rfl, w1⟩ := open_int Try.underlying3 (hval 1 3 v1 rfl rfl) h1
  obtain ⟨a2, rfl, rfl, rfl, w2⟩ := open_int Try.underlying3 (hval 2 3 v2 rfl rfl) h2
  obtain ⟨xs3, i3, w3⟩ := open_Ints Try.underlying23 Try.underlying22 (by kernel_rfl) (hval 3 23 v3 rfl rfl) h3
  refine (walk rv0 kv0 cv0 uv0 R0 K0 C0 U0 a1 a2 v3 xs3 W cm0 wR0 wK0 wC0 wU0 w1 w2 i3 w3).mono fun e W' ⟨he, hg⟩ => ⟨_, he, ?_⟩
  exact law_post (by kernel_rfl) (by kernel_rfl) rfl Try.underlying4 rfl rfl hW' hg

/-- the statement -/
theorem proved : Rows.ShapeBackSaid :=
  OpenClaim.holds_of_wide 5 Try.f5 rfl rfl rfl rfl rfl rfl rfl ⟨rfl, rfl, rfl, rfl, rfl⟩ rfl rfl rfl rfl rfl (by kernel_rfl) Try.func5 (by kernel_rfl)
    (of_decide_eq_true (by kernel_rfl)) (by unfold Func.isWrapper; first | (rw [if_pos (by decide +kernel)]; kernel_rfl) | (rw [if_neg (by decide +kernel)]; exact ⟨rfl, rfl⟩))
    (fun os started H enc _ => lifted os started H enc)
end Go.Proofs.Ytnfnommiabalfaa.shapeBack
