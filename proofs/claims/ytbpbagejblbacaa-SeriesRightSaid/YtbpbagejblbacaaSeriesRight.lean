/- SeriesRight: whatever the number, the lists and how many, the law answers true, and nothing that was there has turned. No condition. -/
import Derived.Test.YtbpbagejblbacaaAwake04
import Derived.Test.YtbpbagejblbacaaTurned04
namespace Go.Proofs.Ytbpbagejblbacaa.seriesRight
open Go.ChangeShapes Go.WideShapes Go.ChangeAt Go.RowKit

set_option maxRecDepth 100000 in
set_option maxHeartbeats 1000000 in
theorem walk_skip (p m : Int) (v u : Value) (s c : List Int) (w : World) (hv : Ints .u64 w v s) (hu : Ints .u64 w u c) (h : 60 < s.length ∨ 60 < c.length ∨ (40 < m ∧ m ≤ 512)) :
    Calls Try.prog 3 #[.int .u64 p, v, u, .int .i64 m] w (Ret (.bool true) w) := by
  obtain ⟨a, cap, rfl, k1, k2, k3⟩ := hv
  obtain ⟨a', cap', rfl, m1, m2, m3⟩ := hu
  clear k3 m3
  by_cases g1 : 60 < s.length
  · clear h
    go_enter Try.func3, Try.ntmps3
    go_wp2_with (go_at_call 8; refine (awake04 w).mono ?_; rintro _ w1 ⟨rfl, x1⟩)
    go_ret
    exact ⟨rfl, (by repeat (first | exact Ext.refl _ | assumption | refine Ext.drew ?_ | refine Ext.drewN ?_ _ | refine Ext.alloc ?_ _ | refine Ext.trans ?_ (by assumption)))⟩
  · by_cases g2 : 60 < c.length
    · clear h
      go_enter Try.func3, Try.ntmps3
      go_wp2_with (go_at_call 8; refine (awake04 w).mono ?_; rintro _ w1 ⟨rfl, x1⟩)
      go_ret
      exact ⟨rfl, (by repeat (first | exact Ext.refl _ | assumption | refine Ext.drew ?_ | refine Ext.drewN ?_ _ | refine Ext.alloc ?_ _ | refine Ext.trans ?_ (by assumption)))⟩
    · obtain ⟨g3, g4⟩ : 40 < m ∧ m ≤ 512 := by omega
      clear h
      go_enter Try.func3, Try.ntmps3
      go_wp2_with (go_at_call 8; refine (awake04 w).mono ?_; rintro _ w1 ⟨rfl, x1⟩)
      go_ret
      exact ⟨rfl, (by repeat (first | exact Ext.refl _ | assumption | refine Ext.drew ?_ | refine Ext.drewN ?_ _ | refine Ext.alloc ?_ _ | refine Ext.trans ?_ (by assumption)))⟩

set_option maxRecDepth 100000 in
set_option maxHeartbeats 2000000 in
theorem walk_no (p m : Int) (v u : Value) (s c : List Int) (w : World) (h0 : 0 ≤ p) (h1 : p ≤ 18446744073709551615) (hv : Ints .u64 w v s) (hu : Ints .u64 w u c) (hs : U64s s) (hc : U64s c) (g1 : ¬ 60 < s.length) (g2 : ¬ 60 < c.length) (g3 : ¬ (40 < m ∧ m ≤ 512)) (hR : ruleB p c = false) :
    Calls Try.prog 3 #[.int .u64 p, v, u, .int .i64 m] w (Ret (.bool true) w) := by
  have cR : ∀ W, Ext w W → Calls Try.prog 9 #[.int .u64 p, u] W fun e w' => e = .returned (.bool false) ∧ W = w' := fun W hW => hR ▸ r4Right p u c W h0 h1 (hu.ext hW) hc
  have cS : ∀ W, Ext w W → Calls Try.prog 12 #[.int .u64 p, u] W fun e w' => e = .returned (.bool false) ∧ W = w' := fun W hW => hR ▸ sRight p u c W h0 h1 (hu.ext hW) hc
  have cO : ∀ W, Ext w W → Calls Try.prog 10 #[.int .u64 p, v, u, .int .i64 m] W (Ret (.tuple #[.slice none 0 0, .int .i64 1]) W) := fun W hW => sOn_no p m v u s c W h0 h1 (hv.ext hW) (hu.ext hW) hs hc (.inl hR)
  have cP : ∀ W, Ext w W → Calls Try.prog 11 #[.int .u64 p, u] W (Ret (.tuple #[.slice none 0 0, .int .i64 1]) W) := fun W hW => sPoly_no p u c W h0 h1 (hu.ext hW) hc hR
  have cB : ∀ W, Ext w W → Calls Try.prog 13 #[.int .u64 p, v, u] W (Ret (.bool (obeysB p s c)) W) := fun W hW => sObeys p v u s c W h0 h1 (hv.ext hW) (hu.ext hW) hs hc (by omega)
  have cD : ∀ W, Ext w W → Calls Try.prog 14 #[.int .u64 p, v, u] W (Ret (.bool (obeysB p s c)) W) := fun W hW => RetD.ret (r4Obeys p v u s c W h0 h1 (hv.ext hW) (hu.ext hW) hs hc)
  obtain ⟨O, hO⟩ : ∃ O, obeysB p s c = O := ⟨_, rfl⟩
  rw [hO] at cB cD
  have CR := hid cR; have CS := hid cS; have CO := hid cO; have CP := hid cP; have CB := hid cB; have CD := hid cD
  clear cR cS cO cP cB cD hR hs hc hO
  obtain ⟨a, cap, rfl, k1, k2, k3⟩ := hv
  obtain ⟨a', cap', rfl, m1, m2, m3⟩ := hu
  clear k3 m3
  have g3' : m ≤ 40 ∨ 512 < m := by omega
  clear g3
  rcases g3' with g3 | g3
  all_goals
    go_enter Try.func3, Try.ntmps3
    go_wp2_with (first | (go_at_call 8; refine (awake04 w).mono ?_; rintro _ w1 ⟨rfl, x1⟩) | (go_at_call 9; refine (CR.out w1 x1).mono ?_; rintro _ _ ⟨rfl, rfl⟩) | fail)
    refine (CO.out w1 x1).mono ?_
    rintro _ w2 ⟨rfl, x2⟩
    have y2 : Ext w w2 := x1.trans x2
    go_wp2_with fail
    refine (CP.out w2 y2).mono ?_
    rintro _ w3 ⟨rfl, x3⟩
    have y3 : Ext w w3 := y2.trans x3
    go_wp2_with fail
    refine (CS.out w3 y3).mono ?_
    rintro _ _ ⟨rfl, rfl⟩
    go_wp2_with fail
    refine (CB.out w3 y3).mono ?_
    rintro _ w4 ⟨rfl, x4⟩
    have y4 : Ext w w4 := y3.trans x4
    go_wp2_with fail
    refine (CD.out w4 y4).mono ?_
    rintro _ w5 ⟨rfl, x5⟩
    have y5 : Ext w w5 := y4.trans x5
    go_wp2_with fail
    go_ret
    exact ⟨rfl, y5⟩

set_option maxRecDepth 100000 in
set_option maxHeartbeats 2000000 in
theorem walk_arg (p m : Int) (v u : Value) (s c : List Int) (w : World) (h0 : 0 ≤ p) (h1 : p ≤ 18446744073709551615) (hv : Ints .u64 w v s) (hu : Ints .u64 w u c) (hs : U64s s) (hc : U64s c) (g1 : ¬ 60 < s.length) (g2 : ¬ 60 < c.length) (g3 : ¬ (40 < m ∧ m ≤ 512)) (hR : ruleB p c = true)
    (h : hasB p s = false ∨ m < 0 ∨ 512 < m) :
    Calls Try.prog 3 #[.int .u64 p, v, u, .int .i64 m] w (Ret (.bool true) w) := by
  have cR : ∀ W, Ext w W → Calls Try.prog 9 #[.int .u64 p, u] W fun e w' => e = .returned (.bool true) ∧ W = w' := fun W hW => hR ▸ r4Right p u c W h0 h1 (hu.ext hW) hc
  have cS : ∀ W, Ext w W → Calls Try.prog 12 #[.int .u64 p, u] W fun e w' => e = .returned (.bool true) ∧ W = w' := fun W hW => hR ▸ sRight p u c W h0 h1 (hu.ext hW) hc
  have cO : ∀ W, Ext w W → Calls Try.prog 10 #[.int .u64 p, v, u, .int .i64 m] W (Ret (.tuple #[.slice none 0 0, .int .i64 1]) W) := fun W hW => sOn_no p m v u s c W h0 h1 (hv.ext hW) (hu.ext hW) hs hc (.inr h)
  have cP : ∀ W, Ext w W → Calls Try.prog 11 #[.int .u64 p, u] W fun e w' => ∃ u, e = .returned (.tuple #[u, .int .i64 0]) ∧ Ints .u64 w' u c.reverse ∧ Ext W w' := fun W hW => sPoly_yes p u c W (hu.ext hW) hR hc
  have cB : ∀ W, Ext w W → Calls Try.prog 13 #[.int .u64 p, v, u] W (Ret (.bool (obeysB p s c)) W) := fun W hW => sObeys p v u s c W h0 h1 (hv.ext hW) (hu.ext hW) hs hc (by omega)
  have cD : ∀ W, Ext w W → Calls Try.prog 14 #[.int .u64 p, v, u] W (Ret (.bool (obeysB p s c)) W) := fun W hW => RetD.ret (r4Obeys p v u s c W h0 h1 (hv.ext hW) (hu.ext hW) hs hc)
  have cT : ∀ W, Ext w W → Calls Try.prog 16 #[u] W fun e w' => ∃ u, e = .returned u ∧ Ints .u64 w' u c.reverse ∧ Ext W w' := fun W hW => rTurned u c W (hu.ext hW) (by omega)
  have cH : ∀ W, Ext w W → Calls Try.prog 17 #[.int .u64 p, v] W fun e w' => e = .returned (.bool (hasB p s)) ∧ W = w' := fun W hW => rHas p v s W h0 h1 (hv.ext hW) hs
  obtain ⟨O, hO⟩ : ∃ O, obeysB p s c = O := ⟨_, rfl⟩
  obtain ⟨B, hB⟩ : ∃ B, hasB p s = B := ⟨_, rfl⟩
  rw [hO] at cB cD
  rw [hB] at h cH
  have CR := hid cR; have CS := hid cS; have CO := hid cO; have CP := hid cP; have CB := hid cB; have CD := hid cD; have CT := hid cT; have CH := hid cH
  clear cR cS cO cP cB cD cT cH hR hs hc hO hB
  obtain ⟨a, cap, rfl, k1, k2, k3⟩ := hv
  obtain ⟨a', cap', rfl, m1, m2, m3⟩ := hu
  clear k3 m3
  have g3' : (B = false ∧ m ≤ 40) ∨ (B = false ∧ 512 < m) ∨ (B = true ∧ m < 0) ∨ (B = true ∧ 512 < m) := by
    cases B
    · have : m ≤ 40 ∨ 512 < m := by omega
      rcases this with h | h
      · exact .inl ⟨rfl, h⟩
      · exact .inr (.inl ⟨rfl, h⟩)
    · rcases h with h | h | h
      · cases h
      · exact .inr (.inr (.inl ⟨rfl, h⟩))
      · exact .inr (.inr (.inr ⟨rfl, h⟩))
  clear g3 h
  rcases g3' with ⟨rfl, g3⟩ | ⟨rfl, g3⟩ | ⟨rfl, g3⟩ | ⟨rfl, g3⟩
  all_goals
    go_enter Try.func3, Try.ntmps3
    go_wp2_with (first | (go_at_call 8; refine (awake04 w).mono ?_; rintro _ w1 ⟨rfl, x1⟩) | (go_at_call 9; refine (CR.out w1 x1).mono ?_; rintro _ _ ⟨rfl, rfl⟩) | fail)
    refine (CO.out w1 x1).mono ?_
    rintro _ w2 ⟨rfl, x2⟩
    have y2 : Ext w w2 := x1.trans x2
    go_wp2_with fail
    refine (CP.out w2 y2).mono ?_
    rintro _ w3 ⟨v3, rfl, i3, x3⟩
    have y3 : Ext w w3 := y2.trans x3
    have I3 := hid i3
    clear i3
    go_wp2_with fail
    refine (CS.out w3 y3).mono ?_
    rintro _ _ ⟨rfl, rfl⟩
    go_wp2_with fail
    refine (CB.out w3 y3).mono ?_
    rintro _ w4 ⟨rfl, x4⟩
    have y4 : Ext w w4 := y3.trans x4
    go_wp2_with fail
    refine (CD.out w4 y4).mono ?_
    rintro _ w5 ⟨rfl, x5⟩
    have y5 : Ext w w5 := y4.trans x5
    go_wp2_with fail
    refine (CT.out w5 y5).mono ?_
    rintro _ w6 ⟨v6, rfl, i6, x6⟩
    have y6 : Ext w w6 := y5.trans x6
    go_wp2_with fail
    refine (same_yes _ _ _ w6 (I3.out.ext (x4.trans (x5.trans x6))) i6).mono ?_
    rintro _ w7 ⟨rfl, x7⟩
    have y7 : Ext w w7 := y6.trans x7
    clear i6
    go_wp2_with (go_at_call 17; refine (CH.out w7 y7).mono ?_; rintro _ _ ⟨rfl, rfl⟩)
    go_ret
    exact ⟨rfl, y7⟩

set_option maxRecDepth 100000 in
set_option maxHeartbeats 2000000 in
theorem walk_yes (p : Int) (m : Nat) (v u : Value) (s c : List Int) (w : World) (hv : Ints .u64 w v s) (hu : Ints .u64 w u c) (hs : Rng p s) (hc : U64s c) (g1 : ¬ 60 < s.length) (g2 : ¬ 60 < c.length) (g3 : m ≤ 40) (hR : ruleB p c = true) :
    Calls Try.prog 3 #[.int .u64 p, v, u, .int .i64 m] w (Ret (.bool true) w) := by
  obtain ⟨r1, r2, r3, r4, r5⟩ := (ruleB_iff hc).1 hR
  have hp2 := rightB_true r1
  have h0 : 0 ≤ p := by omega
  have h1 : p ≤ 18446744073709551615 := by omega
  have hs' := hs.u64 hp2.2
  have cR : ∀ W, Ext w W → Calls Try.prog 9 #[.int .u64 p, u] W fun e w' => e = .returned (.bool true) ∧ W = w' := fun W hW => hR ▸ r4Right p u c W h0 h1 (hu.ext hW) hc
  have cS : ∀ W, Ext w W → Calls Try.prog 12 #[.int .u64 p, u] W fun e w' => e = .returned (.bool true) ∧ W = w' := fun W hW => hR ▸ sRight p u c W h0 h1 (hu.ext hW) hc
  have cO : ∀ W, Ext w W → Calls Try.prog 10 #[.int .u64 p, v, u, .int .i64 m] W (RetOn (onL p c s m) W) := fun W hW => sOn_yes p m v u s c W (hv.ext hW) (hu.ext hW) hR hs hc (by omega) (by omega)
  have cP : ∀ W, Ext w W → Calls Try.prog 11 #[.int .u64 p, u] W fun e w' => ∃ u, e = .returned (.tuple #[u, .int .i64 0]) ∧ Ints .u64 w' u c.reverse ∧ Ext W w' := fun W hW => sPoly_yes p u c W (hu.ext hW) hR hc
  have cB : ∀ W, Ext w W → Calls Try.prog 13 #[.int .u64 p, v, u] W (Ret (.bool (obeysB p s c)) W) := fun W hW => sObeys p v u s c W h0 h1 (hv.ext hW) (hu.ext hW) hs' hc (by omega)
  have cD : ∀ W, Ext w W → Calls Try.prog 14 #[.int .u64 p, v, u] W (Ret (.bool (obeysB p s c)) W) := fun W hW => RetD.ret (r4Obeys p v u s c W h0 h1 (hv.ext hW) (hu.ext hW) hs' hc)
  have cT : ∀ W, Ext w W → Calls Try.prog 16 #[u] W fun e w' => ∃ u, e = .returned u ∧ Ints .u64 w' u c.reverse ∧ Ext W w' := fun W hW => rTurned u c W (hu.ext hW) (by omega)
  have cH : ∀ W, Ext w W → Calls Try.prog 17 #[.int .u64 p, v] W fun e w' => e = .returned (.bool true) ∧ W = w' := fun W hW => hs.has r1 ▸ rHas p v s W h0 h1 (hv.ext hW) hs'
  obtain ⟨O, hO⟩ : ∃ O, obeysB p s c = O := ⟨_, rfl⟩
  rw [hO] at cB cD
  have c1 : (pol p c).co 0 = 1 := by rw [r2.co]; exact r5
  have ol := onL_len (p := p) c s m
  have orng := onL_rng (c := c) hp2.1 hs m
  have oob := onL_obe c1 m (s := s)
  have oget : (onL p c s m).take s.length = s := list_ext (by rw [List.length_take, ol]; omega) fun j hj => by
    rw [List.length_take, ol] at hj
    rw [take_get _ (by omega), onL_get c s (by omega)]
  obtain ⟨l, hl⟩ : ∃ l, onL p c s m = l := ⟨_, rfl⟩
  rw [hl] at cO ol orng oob oget
  have CR := hid cR; have CS := hid cS; have CO := hid cO; have CP := hid cP; have CB := hid cB; have CD := hid cD; have CT := hid cT; have CH := hid cH
  have OR := hid orng; have OO := hid oob; have OG := hid oget; have OL := hid ol; have Hp := hid r1; have Hc := hid r2
  have Hv := hid hv; have Hu := hid hu
  clear cR cS cO cP cB cD cT cH hR hs hs' hc hO r1 r2 r3 r4 r5 c1 ol orng oob oget hl
  obtain ⟨a, cap, rfl, k1, k2, k3⟩ := hv
  obtain ⟨a', cap', rfl, m1, m2, m3⟩ := hu
  clear k3 m3
  go_enter Try.func3, Try.ntmps3
  go_wp2_with (first | (go_at_call 8; refine (awake04 w).mono ?_; rintro _ w1 ⟨rfl, x1⟩) | (go_at_call 9; refine (CR.out w1 x1).mono ?_; rintro _ _ ⟨rfl, rfl⟩) | fail)
  refine (CO.out w1 x1).mono ?_
  rintro _ w2 ⟨v2, rfl, i2, x2⟩
  have y2 : Ext w w2 := x1.trans x2
  have I2 := hid i2
  obtain ⟨a2, c2, rfl, j1, j2, j3⟩ := i2
  have oll := OL.out
  rw [oll] at I2 j1 ⊢
  clear j3
  go_wp2_with fail
  refine (CP.out w2 y2).mono ?_
  rintro _ w3 ⟨v3, rfl, i3, x3⟩
  have y3 : Ext w w3 := y2.trans x3
  have I3 := hid i3
  clear i3
  go_wp2_with fail
  refine (CS.out w3 y3).mono ?_
  rintro _ _ ⟨rfl, rfl⟩
  go_wp2_with fail
  refine (CB.out w3 y3).mono ?_
  rintro _ w4 ⟨rfl, x4⟩
  have y4 : Ext w w4 := y3.trans x4
  go_wp2_with fail
  refine (CD.out w4 y4).mono ?_
  rintro _ w5 ⟨rfl, x5⟩
  have y5 : Ext w w5 := y4.trans x5
  go_wp2_with fail
  refine (CT.out w5 y5).mono ?_
  rintro _ w6 ⟨v6, rfl, i6, x6⟩
  have y6 : Ext w w6 := y5.trans x6
  go_wp2_with fail
  refine (same_yes _ _ _ w6 (I3.out.ext (x4.trans (x5.trans x6))) i6).mono ?_
  rintro _ w7 ⟨rfl, x7⟩
  have y7 : Ext w w7 := y6.trans x7
  have z7 : Ext w2 w7 := x3.trans (x4.trans (x5.trans (x6.trans x7)))
  clear i6
  have hsl : Hid (Ints .u64 w7 (.slice a2 s.length c2) s) := hid (by
    have := (I2.out.ext z7).take' s.length (by rw [oll]; omega)
    rw [OG.out] at this; exact this)
  have hlc : (s.length : Int) ≤ (c2 : Int) := by omega
  go_wp2_with (go_at_call 17; refine (CH.out w7 y7).mono ?_; rintro _ _ ⟨rfl, rfl⟩)
  refine (same_yes _ _ s w7 hsl.out (Hv.out.ext y7)).mono ?_
  rintro _ w8 ⟨rfl, x8⟩
  have y8 : Ext w w8 := y7.trans x8
  have z8 : Ext w2 w8 := z7.trans x8
  go_wp2_with fail
  have hh := rHas p (.slice a2 (s.length + m) c2) l w8 h0 h1 (I2.out.ext z8) (OR.out.u64 hp2.2)
  rw [OR.out.has Hp.out] at hh
  refine hh.mono ?_
  rintro _ _ ⟨rfl, rfl⟩
  clear hh
  go_wp2_with fail
  go_loopw [14] (fun i wr => ∃ k : Nat, i = .int .i64 k ∧ s.length ≤ k ∧ k ≤ s.length + m ∧ Ext w8 wr) (fun i _ => s.length + m - (intOf i).toNat)
  case atStart => exact ⟨s.length, rfl, Nat.le_refl _, by omega, Ext.refl _⟩
  case round =>
    obtain ⟨k, rfl, hk1, hk2, hx⟩ := hrel
    by_cases hlt : k < s.length + m
    · have hsum := r4Sum p (.slice a2 (s.length + m) c2) (.slice a' c.length cap') l c k wr Hp.out (I2.out.ext (z8.trans hx)) (Hu.out.ext (y8.trans hx)) OR.out Hc.out (by rw [oll]; exact hlt)
      rw [OO.out k hk1 hlt] at hsum
      have HS := hid hsum
      clear hsum
      go_wp2_with fail
      refine HS.out.mono ?_
      rintro _ w9 ⟨rfl, x9⟩
      go_wp2_with fail
      go_roundw
      case rel => exact ⟨k + 1, by go_num, by omega, by omega, hx.trans x9.ext⟩
      case measure => simp [intOf]; omega
    · obtain rfl : k = s.length + m := by omega
      go_wp2_with fail
      go_ret
      exact ⟨rfl, y8.trans hx⟩

theorem walk (p : Int) (v : Value) (s : List Int) (u : Value) (c : List Int) (m : Int) (w : World) (hp : (Lit.int .u64 p).wf = true) (hv : Ints .u64 w v s) (hs : ∀ x ∈ s, (Lit.int .u64 x).wf = true) (hu : Ints .u64 w u c) (hc : ∀ x ∈ c, (Lit.int .u64 x).wf = true) (hm : (Lit.int .i64 m).wf = true) :
    Calls Try.prog 3 #[.int .u64 p, v, u, .int .i64 m] w (Ret (.bool true) w) := by
  obtain ⟨h0, h1⟩ := u64_wf hp
  have hs' : U64s s := fun x hx => u64_wf (hs x hx)
  have hc' : U64s c := fun x hx => u64_wf (hc x hx)
  by_cases g : 60 < s.length ∨ 60 < c.length ∨ (40 < m ∧ m ≤ 512)
  · exact walk_skip p m v u s c w hv hu g
  · have g1 : ¬ 60 < s.length := fun h => g (.inl h)
    have g2 : ¬ 60 < c.length := fun h => g (.inr (.inl h))
    have g3 : ¬ (40 < m ∧ m ≤ 512) := fun h => g (.inr (.inr h))
    cases hR : ruleB p c with
    | false => exact walk_no p m v u s c w h0 h1 hv hu hs' hc' g1 g2 g3 hR
    | true =>
      by_cases h : hasB p s = false ∨ m < 0 ∨ 512 < m
      · exact walk_arg p m v u s c w h0 h1 hv hu hs' hc' g1 g2 g3 hR h
      · have hB : hasB p s = true := by
          cases hB : hasB p s
          · exact absurd (.inl hB) h
          · rfl
        obtain ⟨k, rfl⟩ : ∃ k : Nat, m = (k : Int) := ⟨m.toNat, by omega⟩
        exact walk_yes p k v u s c w hv hu (fun x hx => ⟨(hs' x hx).1, (hasB_true hB).2 x hx⟩) hc' g1 g2 (by omega) hR

theorem own : ownKnob Try.prog.godebug = none := by kernel_rfl
set_option maxRecDepth 100000 in
theorem lifted (os : Os) (started : os.Started) (H : Type) (enc : TypeId × Value → H) :
    ReturnsInHanded {} Try.checked os 3 .any (Rows.seriesRightSpec.pre6 enc Try.prog Try.f3 Rows.seriesRightRow.domain false) (Rows.seriesRightSpec.post enc Try.prog Try.f3 false true false false) := by
  refine returnsInHanded_of_change (C := Try.checked) own started (by kernel_rfl) Try.func3
    (ChangeSpec.witness6 (enc := enc) (C := Try.checked) false ⟨#[], #[.int .u64 0, .slice none 0 0, .slice none 0 0, .int .i64 0], []⟩ 8 (by kernel_rfl) (by kernel_rfl) (by kernel_rfl) (by kernel_rfl)) ?_
  intro W base args ds gs before hval0 hW _ _
  have hval : ∀ (j : Nat) t v, Try.f3.params[j]? = some t → args[j]? = some v → Value.okWide Try.prog W .any base t v := hval0
  have hW' := hW
  obtain ⟨p, q, hA0, hV, rfl, _, _⟩ := hW
  have hA : DataW.TrodAll enc Try.prog W 0 (fun _ => true) true Try.f3.params.toList args.toList ds p := hA0
  rw [Try.params3] at hA hval
  obtain ⟨v0, vs0, d0, ds0, p0, q0, hargs, rfl, rfl, h0, r0⟩ := trodAll_cons hA
  obtain ⟨v1, vs1, d1, ds1, p1, q1, rfl, rfl, rfl, h1, r1⟩ := trodAll_cons r0
  obtain ⟨v2, vs2, d2, ds2, p2, q2, rfl, rfl, rfl, h2, r2⟩ := trodAll_cons r1
  obtain ⟨v3, vs3, d3, ds3, p3, q3, rfl, rfl, rfl, h3, r3⟩ := trodAll_cons r2
  obtain ⟨rfl, rfl, rfl⟩ := trodAll_nil r3
  obtain rfl : args = #[v0, v1, v2, v3] := by cases args; simp_all
  obtain ⟨rfl, rfl⟩ := trodVars_none hV
  obtain ⟨a0, rfl, rfl, rfl, w0⟩ := open_int Try.underlying22 (hval 0 22 v0 rfl rfl) h0
  obtain ⟨xs1, i1, w1⟩ := open_Ints Try.underlying23 Try.underlying22 (by kernel_rfl) (hval 1 23 v1 rfl rfl) h1
  obtain ⟨xs2, i2, w2⟩ := open_Ints Try.underlying23 Try.underlying22 (by kernel_rfl) (hval 2 23 v2 rfl rfl) h2
  obtain ⟨a3, rfl, rfl, rfl, w3⟩ := open_int Try.underlying3 (hval 3 3 v3 rfl rfl) h3
  refine (walk a0 v1 xs1 v2 xs2 a3 W w0 i1 w1 i2 w2 w3).mono fun e W' ⟨he, hg⟩ => ⟨_, he, ?_⟩
  exact law_post (by kernel_rfl) (by kernel_rfl) rfl Try.underlying4 rfl rfl hW' hg

/-- the statement -/
theorem proved : Rows.SeriesRightSaid :=
  OpenClaim.holds_of_wide 3 Try.f3 rfl rfl rfl rfl rfl rfl rfl ⟨rfl, rfl, rfl, rfl, rfl⟩ rfl rfl rfl rfl rfl (by kernel_rfl) Try.func3 (by kernel_rfl)
    (of_decide_eq_true (by kernel_rfl)) (by unfold Func.isWrapper; first | (rw [if_pos (by decide +kernel)]; kernel_rfl) | (rw [if_neg (by decide +kernel)]; exact ⟨rfl, rfl⟩))
    (fun os started H enc _ => lifted os started H enc)
end Go.Proofs.Ytbpbagejblbacaa.seriesRight
