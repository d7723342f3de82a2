/- SeriesMore: whatever the number, the row, where it is cut and what it is scaled by, the law answers true, and nothing that was there has turned. No condition. -/
import Derived.Test.YtbpbagejblbacaaAwake04
import Derived.Test.YtbpbagejblbacaaRuleN
namespace Go.Proofs.Ytbpbagejblbacaa.seriesMore
open Go.ChangeShapes Go.WideShapes Go.ChangeAt Go.RowKit

set_option maxRecDepth 100000 in
set_option maxHeartbeats 1000000 in
theorem walk_skip (p cu x : Int) (v : Value) (s : List Int) (w : World) (h0 : 0 ≤ p) (h1 : p ≤ 18446744073709551615) (hv : Ints .u64 w v s) (hs : U64s s)
    (h : takenB p = false ∨ 60 < s.length ∨ hasB p s = false ∨ x = 0 ∨ p ≤ x) :
    Calls Try.prog 6 #[.int .u64 p, v, .int .u8 cu, .int .u64 x] w (Ret (.bool true) w) := by
  have cP : ∀ W, Calls Try.prog 20 #[.int .u64 p] W fun e w' => e = .returned (.bool (takenB p)) ∧ W = w' := fun W => prime_any p W h0
  have cH : ∀ W, Ext w W → Calls Try.prog 22 #[.int .u64 p, v] W fun e w' => e = .returned (.bool (hasB p s)) ∧ W = w' := fun W hW => has_any p v s W h0 h1 (hv.ext hW) hs
  obtain ⟨T, hT⟩ : ∃ T, takenB p = T := ⟨_, rfl⟩
  obtain ⟨B, hB⟩ : ∃ B, hasB p s = B := ⟨_, rfl⟩
  rw [hT] at cP h; rw [hB] at cH h
  have CP := hid cP; have CH := hid cH
  clear cP cH hT hB hs
  obtain ⟨a, cap, rfl, k1, k2, k3⟩ := hv
  clear k3
  cases T with
  | false =>
    clear h
    go_enter Try.func6, Try.ntmps6
    go_wp2_with (first | (go_at_call 8; refine (awake04 w).mono ?_; rintro _ w1 ⟨rfl, x1⟩) | (go_at_call 20; refine (CP.out w1).mono ?_; rintro _ _ ⟨rfl, rfl⟩))
    go_ret
    exact ⟨rfl, (by repeat (first | exact Ext.refl _ | assumption | refine Ext.drew ?_ | refine Ext.drewN ?_ _ | refine Ext.alloc ?_ _ | refine Ext.trans ?_ (by assumption)))⟩
  | true =>
    by_cases g1 : 60 < s.length
    · clear h
      go_enter Try.func6, Try.ntmps6
      go_wp2_with (first | (go_at_call 8; refine (awake04 w).mono ?_; rintro _ w1 ⟨rfl, x1⟩) | (go_at_call 20; refine (CP.out w1).mono ?_; rintro _ _ ⟨rfl, rfl⟩))
      go_ret
      exact ⟨rfl, (by repeat (first | exact Ext.refl _ | assumption | refine Ext.drew ?_ | refine Ext.drewN ?_ _ | refine Ext.alloc ?_ _ | refine Ext.trans ?_ (by assumption)))⟩
    · cases B with
      | false =>
        clear h
        go_enter Try.func6, Try.ntmps6
        go_wp2_with (first | (go_at_call 8; refine (awake04 w).mono ?_; rintro _ w1 ⟨rfl, x1⟩) | (go_at_call 20; refine (CP.out w1).mono ?_; rintro _ _ ⟨rfl, rfl⟩) | (go_at_call 22; refine (CH.out w1 x1).mono ?_; rintro _ _ ⟨rfl, rfl⟩))
        go_ret
        exact ⟨rfl, (by repeat (first | exact Ext.refl _ | assumption | refine Ext.drew ?_ | refine Ext.drewN ?_ _ | refine Ext.alloc ?_ _ | refine Ext.trans ?_ (by assumption)))⟩
      | true =>
        by_cases g2 : x = 0
        · have b1 : (x == 0) = true := by simp [g2]
          clear h g2
          go_enter Try.func6, Try.ntmps6
          go_wp2_with (first | (go_at_call 8; refine (awake04 w).mono ?_; rintro _ w1 ⟨rfl, x1⟩) | (go_at_call 20; refine (CP.out w1).mono ?_; rintro _ _ ⟨rfl, rfl⟩) | (go_at_call 22; refine (CH.out w1 x1).mono ?_; rintro _ _ ⟨rfl, rfl⟩))
          go_ret
          exact ⟨rfl, (by repeat (first | exact Ext.refl _ | assumption | refine Ext.drew ?_ | refine Ext.drewN ?_ _ | refine Ext.alloc ?_ _ | refine Ext.trans ?_ (by assumption)))⟩
        · have g3 : p ≤ x := by
            rcases h with h | h | h | h | h <;> first | exact absurd h g2 | exact absurd h g1 | exact h | cases h
          have b1 : (x == 0) = false := by simp [g2]
          clear h g2
          go_enter Try.func6, Try.ntmps6
          go_wp2_with (first | (go_at_call 8; refine (awake04 w).mono ?_; rintro _ w1 ⟨rfl, x1⟩) | (go_at_call 20; refine (CP.out w1).mono ?_; rintro _ _ ⟨rfl, rfl⟩) | (go_at_call 22; refine (CH.out w1 x1).mono ?_; rintro _ _ ⟨rfl, rfl⟩))
          go_ret
          exact ⟨rfl, (by repeat (first | exact Ext.refl _ | assumption | refine Ext.drew ?_ | refine Ext.drewN ?_ _ | refine Ext.alloc ?_ _ | refine Ext.trans ?_ (by assumption)))⟩

set_option maxRecDepth 100000 in
set_option maxHeartbeats 2000000 in
theorem walk_yes (p cu x : Int) (v : Value) (s : List Int) (w : World) (hv : Ints .u64 w v s) (hs : Rng p s) (hp : rightB p = true) (hT : takenB p = true) (g1 : ¬ 60 < s.length) (hc0 : 0 ≤ cu) (hc1 : cu ≤ 255) (hx0 : 0 < x) (hx1 : x < p) :
    Calls Try.prog 6 #[.int .u64 p, v, .int .u8 cu, .int .u64 x] w (Ret (.bool true) w) := by
  have hp2 := rightB_true hp
  obtain ⟨i0, hi, hz0, hz1, hz2⟩ := info_parts info_u64p
  have hF := taken_fld hT
  have hxy := unit_inv p x hp2.1 (by omega) (hF x hx0 hx1)
  have cP : ∀ W, Calls Try.prog 20 #[.int .u64 p] W fun e w' => e = .returned (.bool true) ∧ W = w' := fun W => hT ▸ prime_any p W (by omega)
  have cH : ∀ W, Ext w W → Calls Try.prog 22 #[.int .u64 p, v] W fun e w' => e = .returned (.bool true) ∧ W = w' := fun W hW => has_yes p v s W (hv.ext hW) (hs.u64 hp2.2) (hs.has hp)
  have CP := hid cP; have CH := hid cH; have Hv := hid hv; have Hs := hid hs; have Hp := hid hp; have HF := hid hF; have Hxy := hid hxy
  clear cP cH hs hp hT hF hxy
  obtain ⟨a, cap, rfl, k1, k2, k3⟩ := hv
  have K3 := hid k3
  clear k3
  obtain ⟨n, hn⟩ : ∃ n, s.length = n := ⟨_, rfl⟩
  have Hn := hid hn
  rw [hn] at CH Hv g1 k1 K3 ⊢
  clear hn
  obtain ⟨q, hq, hqn⟩ : ∃ q : Nat, cu.tmod ((n : Int) + 1) = (q : Int) ∧ q ≤ n := by
    have h1 : cu.tmod ((n : Int) + 1) = cu % ((n : Int) + 1) := Int.tmod_eq_emod_of_nonneg hc0
    have h2 := Int.emod_nonneg cu (show (n : Int) + 1 ≠ 0 by omega)
    have h3 := Int.emod_lt_of_pos cu (show 0 < (n : Int) + 1 by omega)
    exact ⟨(cu % ((n : Int) + 1)).toNat, by rw [h1]; omega, by omega⟩
  have hqc : (q : Int) ≤ (cap : Int) := by omega
  have hmk := make_ints (P := Try.prog) 23 22 .u64 8 (by omega) (by kernel_rfl) (by kernel_rfl) n n (Nat.le_refl _) (by omega)
  have bx : (x == 0) = false := by rw [beq_eq_false_iff_ne]; omega
  go_enter Try.func6, Try.ntmps6
  go_wp2_with (first | (go_at_call 8; refine (awake04 w).mono ?_; rintro _ w1 ⟨rfl, x1⟩) | (go_at_call 20; refine (CP.out w1).mono ?_; rintro _ _ ⟨rfl, rfl⟩) | (go_at_call 22; refine (CH.out w1 x1).mono ?_; rintro _ _ ⟨rfl, rfl⟩) | fail)
  refine (sRule_p p _ s w1 Hp.out HF.out (Hv.out.ext x1) Hs.out (by rw [Hn.out]; omega)).mono ?_
  rintro _ w2 ⟨a2, c2, n2, c, rfl, l2, i2, x2, r2⟩
  have y2 : Ext w w2 := x1.trans x2
  go_wp2_with fail
  refine (sRule_p p _ (s.take q) w2 Hp.out HF.out ((Hv.out.ext y2).take' q (by rw [Hn.out]; exact hqn)) (Hs.out.take q) (by rw [List.length_take, Hn.out]; omega)).mono ?_
  rintro _ w3 ⟨a3, c3, n3, d, rfl, l3, i3, x3, r3⟩
  have y3 : Ext w w3 := y2.trans x3
  have z3 : Ext w2 w3 := x3
  have h23 : n3 ≤ n2 := by rw [← l2.out, ← l3.out]; exact r2.out.cut r3.out (by rw [Hn.out]; exact hqn)
  clear x3 i3 r3
  go_wp2_with fail
  refine (sRule_p p _ (List.replicate n 0) _ Hp.out HF.out (Ints.made (Nat.le_refl _) (by omega) rfl) (fun t ht => by rw [List.mem_replicate] at ht; omega) (by simp; omega)).mono ?_
  rintro _ w4 ⟨a4, c4, n4, z, rfl, l4, i4, x4, r4⟩
  have e4 : Ext w3 w4 := ((Ext.refl w3).alloc _).trans x4
  have y4 : Ext w w4 := y3.trans e4
  have z4 : Ext w2 w4 := z3.trans e4
  obtain rfl : n4 = 1 := by rw [← l4.out]; exact r4.out.nought hp2.1
  clear x4 e4 i4 r4
  go_wp2_with fail
  go_loopw [16, 15] (fun i rv wr => ∃ k : Nat, i = .int .i64 k ∧ k ≤ n ∧ Hid (wr.ownsRow w4.heap.size 22 1 rv k (((s.map fun y => y * x % p).take k).map (Value.int .u64))) ∧ Ext w4 wr) (fun i _ _ => n - (intOf i).toNat)
  case atStart => exact ⟨0, rfl, Nat.zero_le _, hid (World.ownsRow_nil _ _ _ _), Ext.refl _⟩
  case round =>
    obtain ⟨k, rfl, hk, hown, hx⟩ := hrel
    by_cases hlt : k < n
    · obtain ⟨b, off, rfl, hb, hcell⟩ := K3.out (by omega)
      have g := ((y4.trans hx).cells _ _ hb).trans (hcell k hlt)
      have r := Hs.out.get (k := k) (by rw [Hn.out]; exact hlt)
      obtain ⟨y, ey⟩ : ∃ y, s.getD k 0 = y := ⟨_, rfl⟩
      rw [ey] at g r
      obtain ⟨z, ez, z0, z1⟩ := name_mod (p := p) (y * x) hp2.1
      have hlm := hid (show (((s.map fun y => y * x % p).take k).map (Value.int .u64)) ++ [Value.int .u64 z] = ((s.map fun y => y * x % p).take (k + 1)).map (Value.int .u64) by
        rw [take_snoc _ k (by rw [List.length_map, Hn.out]; exact hlt), List.map_append]
        have : (s.map fun y => y * x % p).getD k 0 = s.getD k 0 * x % p := by simp [List.getD, show k < s.length by rw [Hn.out]; exact hlt]
        rw [this, ey, ez]; rfl)
      have Ez := hid ez
      clear ey ez hcell
      go_wp2_with fail
      refine (mul_as p y x z _ Hp.out r.1 r.2 (by omega) hx1 Ez.out).mono ?_
      rintro _ w5 ⟨rfl, x5⟩
      have hx5 : Ext w4 w5 := hx.trans x5
      have hsz := hx5.size
      have hown5 := hid (ownsRow_ext hown.out x5)
      go_wp2_with (first | (at_builtin; refine wpList_append_own _ rfl _ _ 23 rfl w4.heap.size 22 i0 (.int .u64 0) 1 8 Try.underlying23 hi hz0 hz1 hz2 rfl (by decide) _ _ _ rfl (hown5.out.alloc _) ⟨w5.heap.size, 0, none⟩ 1 1 [.int .u64 z] rfl rfl (cells_new _ _ _ (by simp)) (by simp [Value.oneCell']) (by simp only [maxLen]; omega) (by omega) (by simp; omega) ?_; intro v' w6 hown6 hgrow6 hnil6) | fail)
      go_roundw
      case rel => exact ⟨k + 1, by go_num, by omega, hid (by rw [← hlm.out]; exact hown6), (hx5.alloc _).grown hgrow6 (fun t e => (hown5.out.lt t e).1)⟩
      case measure => simp [intOf]; omega
    · obtain rfl : k = n := by omega
      have ho := hown.out
      have hml : (s.map fun y => y * x % p).length = k := by rw [List.length_map, Hn.out]
      rw [List.take_of_length_le (by omega)] at ho
      obtain ⟨a5, c5, rfl, c52, c53, c54, c55⟩ := WRow.of_owns ho
      have hI : Hid (Ints .u64 wr (.slice a5 k c5) (s.map fun y => y * x % p)) := hid (by
        rcases Nat.eq_zero_or_pos k with h0 | h0
        · exact ⟨a5, c5, by rw [c54], by omega, c53, fun h => by omega⟩
        · obtain ⟨g4, rfl, hg4, hw4⟩ := c55 h0
          exact hw4.ints' c54 c52 c53)
      have hmr : Hid (Rng p (s.map fun y => y * x % p)) := hid (fun y hy => by
        obtain ⟨z, _, rfl⟩ := List.mem_map.1 hy
        exact mod_range _ hp2.1)
      clear c55 ho hown c54
      have z5 : Ext w2 wr := z4.trans hx
      have y5 : Ext w wr := y4.trans hx
      have Hml := hid hml
      clear hml
      go_wp2_with fail
      refine (sRule_p p _ (s.map fun y => y * x % p) wr Hp.out HF.out hI.out hmr.out (by rw [Hml.out]; omega)).mono ?_
      rintro _ w6 ⟨a6, c6, n6, u, rfl, l6, i6, x6, r6⟩
      have hsc := r2.out.scaled hp2.1 Hxy.out Hs.out r6.out
      rw [l6.out, l2.out] at hsc
      obtain ⟨s1, s2, s3⟩ := hsc
      have S2 := hid s2; have S3 := hid s3
      have hcl : n2 ≤ k + 1 := by rw [← l2.out, ← Hn.out]; exact r2.out.2.2.2.1
      have y6 : Ext w w6 := y5.trans x6
      have z6 : Ext w2 w6 := z5.trans x6
      subst s1
      clear s2 s3
      go_wp2_with fail
      have ho1 := sObeys p _ _ (s.map fun y => y * x % p) c w6 (by omega) (by omega) (hI.out.ext x6) (i2.out.ext z6) (hmr.out.u64 hp2.2) (r2.out.2.1.u64 hp2.2) (by rw [Hml.out]; omega)
      rw [S2.out] at ho1
      refine ho1.mono ?_
      rintro _ w7 ⟨rfl, x7⟩
      clear ho1
      go_wp2_with fail
      have ho2 := sObeys p _ _ s u w7 (by omega) (by omega) (Hv.out.ext (y6.trans x7)) (i6.out.ext x7) (Hs.out.u64 hp2.2) (r6.out.2.1.u64 hp2.2) (by rw [Hn.out]; omega)
      rw [S3.out] at ho2
      refine ho2.mono ?_
      rintro _ w8 ⟨rfl, x8⟩
      clear ho2
      go_wp2_with fail
      go_ret
      exact ⟨ret_bool (by simp; omega), (y6.trans x7).trans x8⟩

theorem walk (p : Int) (v : Value) (s : List Int) (cu x : Int) (w : World) (hp : (Lit.int .u64 p).wf = true) (hv : Ints .u64 w v s) (hs : ∀ x ∈ s, (Lit.int .u64 x).wf = true) (hc : (Lit.int .u8 cu).wf = true) (hx : (Lit.int .u64 x).wf = true) :
    Calls Try.prog 6 #[.int .u64 p, v, .int .u8 cu, .int .u64 x] w (Ret (.bool true) w) := by
  obtain ⟨h0, h1⟩ := u64_wf hp
  obtain ⟨x0, x1⟩ := u64_wf hx
  obtain ⟨c0, c1⟩ := u8_wf hc
  have hs' : U64s s := fun x hx => u64_wf (hs x hx)
  by_cases h : takenB p = false ∨ 60 < s.length ∨ hasB p s = false ∨ x = 0 ∨ p ≤ x
  · exact walk_skip p cu x v s w h0 h1 hv hs' h
  · have hT : takenB p = true := by
      cases hT : takenB p
      · exact absurd (.inl hT) h
      · rfl
    have hB : hasB p s = true := by
      cases hB : hasB p s
      · exact absurd (.inr (.inr (.inl hB))) h
      · rfl
    have g1 : ¬ 60 < s.length := fun e => h (.inr (.inl e))
    have g2 : ¬ x = 0 := fun e => h (.inr (.inr (.inr (.inl e))))
    have g3 : ¬ p ≤ x := fun e => h (.inr (.inr (.inr (.inr e))))
    exact walk_yes p cu x v s w hv (fun y hy => ⟨(hs' y hy).1, (hasB_true hB).2 y hy⟩) (hasB_true hB).1 hT g1 c0 c1 (by omega) (by omega)

theorem own : ownKnob Try.prog.godebug = none := by kernel_rfl
set_option maxRecDepth 100000 in
theorem lifted (os : Os) (started : os.Started) (H : Type) (enc : TypeId × Value → H) :
    ReturnsInHanded {} Try.checked os 6 .any (Rows.seriesMoreSpec.pre6 enc Try.prog Try.f6 Rows.seriesMoreRow.domain false) (Rows.seriesMoreSpec.post enc Try.prog Try.f6 false true false false) := by
  refine returnsInHanded_of_change (C := Try.checked) own started (by kernel_rfl) Try.func6
    (ChangeSpec.witness6 (enc := enc) (C := Try.checked) false ⟨#[], #[.int .u64 0, .slice none 0 0, .int .u8 0, .int .u64 0], []⟩ 8 (by kernel_rfl) (by kernel_rfl) (by kernel_rfl) (by kernel_rfl)) ?_
  intro W base args ds gs before hval0 hW _ _
  have hval : ∀ (j : Nat) t v, Try.f6.params[j]? = some t → args[j]? = some v → Value.okWide Try.prog W .any base t v := hval0
  have hW' := hW
  obtain ⟨p, q, hA0, hV, rfl, _, _⟩ := hW
  have hA : DataW.TrodAll enc Try.prog W 0 (fun _ => true) true Try.f6.params.toList args.toList ds p := hA0
  rw [Try.params6] at hA hval
  obtain ⟨v0, vs0, d0, ds0, p0, q0, hargs, rfl, rfl, h0, r0⟩ := trodAll_cons hA
  obtain ⟨v1, vs1, d1, ds1, p1, q1, rfl, rfl, rfl, h1, r1⟩ := trodAll_cons r0
  obtain ⟨v2, vs2, d2, ds2, p2, q2, rfl, rfl, rfl, h2, r2⟩ := trodAll_cons r1
  obtain ⟨v3, vs3, d3, ds3, p3, q3, rfl, rfl, rfl, h3, r3⟩ := trodAll_cons r2
  obtain ⟨rfl, rfl, rfl⟩ := trodAll_nil r3
  obtain rfl : args = #[v0, v1, v2, v3] := by cases args; simp_all
  obtain ⟨rfl, rfl⟩ := trodVars_none hV
  obtain ⟨a0, rfl, rfl, rfl, w0⟩ := open_int Try.underlying22 (hval 0 22 v0 rfl rfl) h0
  obtain ⟨xs1, i1, w1⟩ := open_Ints Try.underlying23 Try.underlying22 (by kernel_rfl) (hval 1 23 v1 rfl rfl) h1
  obtain ⟨a2, rfl, rfl, rfl, w2⟩ := open_int Try.underlying5 (hval 2 5 v2 rfl rfl) h2
  obtain ⟨a3, rfl, rfl, rfl, w3⟩ := open_int Try.underlying22 (hval 3 22 v3 rfl rfl) h3
  refine (walk a0 v1 xs1 a2 a3 W w0 i1 w1 w2 w3).mono fun e W' ⟨he, hg⟩ => ⟨_, he, ?_⟩
  exact law_post (by kernel_rfl) (by kernel_rfl) rfl Try.underlying4 rfl rfl hW' hg

/-- the statement -/
theorem proved : Rows.SeriesMoreSaid :=
  OpenClaim.holds_of_wide 6 Try.f6 rfl rfl rfl rfl rfl rfl rfl ⟨rfl, rfl, rfl, rfl, rfl⟩ rfl rfl rfl rfl rfl (by kernel_rfl) Try.func6 (by kernel_rfl)
    (of_decide_eq_true (by kernel_rfl)) (by unfold Func.isWrapper; first | (rw [if_pos (by decide +kernel)]; kernel_rfl) | (rw [if_neg (by decide +kernel)]; exact ⟨rfl, rfl⟩))
    (fun os started H enc _ => lifted os started H enc)
end Go.Proofs.Ytbpbagejblbacaa.seriesMore
