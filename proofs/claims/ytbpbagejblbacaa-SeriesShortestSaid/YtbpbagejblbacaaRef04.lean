/- What the document's own answers of layer 4 are: Right, Sum, Obeys, Turned. -/
import Derived.Test.YtbpbagejblbacaaMassey
import Derived.Test.YtbpbagejblbacaaClone
import Derived.Test.YtbpbagejblbacaaRef01
namespace Go.Proofs.Ytbpbagejblbacaa
open Go.RowKit

/-- is it a rule? -/
def ruleB (p : Int) (c : List Int) : Bool := decide (0 < c.length) && (decide (c.length < 258) && (hasB p c && decide (c.getD 0 0 = 1)))
theorem ruleB_iff {p : Int} {c : List Int} (hc : U64s c) : ruleB p c = true ↔ rightB p = true ∧ Rng p c ∧ 0 < c.length ∧ c.length < 258 ∧ c.getD 0 0 = 1 := by
  unfold ruleB
  simp only [Bool.and_eq_true, decide_eq_true_eq]
  constructor
  · rintro ⟨h1, h2, h3, h4⟩
    obtain ⟨h5, h6⟩ := hasB_true h3
    exact ⟨h5, fun x hx => ⟨(hc x hx).1, h6 x hx⟩, h1, h2, h4⟩
  · rintro ⟨h1, h2, h3, h4, h5⟩
    exact ⟨h3, h4, h2.has h1, h5⟩

set_option maxRecDepth 100000 in
set_option maxHeartbeats 400000 in
theorem r4Right (p : Int) (v : Value) (c : List Int) (w : World) (h0 : 0 ≤ p) (h1 : p ≤ 18446744073709551615) (hv : Ints .u64 w v c) (hx : U64s c) :
    Calls Try.prog 9 #[.int .u64 p, v] w fun e w' => e = .returned (.bool (ruleB p c)) ∧ w = w' := by
  have hh := rHas p v c w h0 h1 hv hx
  obtain ⟨R, hR⟩ : ∃ R, ruleB p c = R := ⟨_, rfl⟩
  rw [hR]
  unfold ruleB at hR
  obtain ⟨B, hB⟩ : ∃ B, hasB p c = B := ⟨_, rfl⟩
  rw [hB] at hR hh
  obtain ⟨a, cap, rfl, hc1, hc2, hc⟩ := hv
  have Hh := hid hh
  clear hB hh
  by_cases h2 : 0 < c.length
  · obtain ⟨b, off, rfl, hb, hcell⟩ := hc h2
    have g := hcell 0 h2
    have gb := U64s.get hx h2
    obtain ⟨x, ex⟩ : ∃ x, c.getD 0 0 = x := ⟨_, rfl⟩
    rw [ex] at g hR gb
    rw [Nat.add_zero] at g
    rw [decide_eq_true h2, Bool.true_and] at hR
    clear hc hcell ex
    have Hg := hid g
    by_cases h3 : c.length < 258
    · rw [decide_eq_true h3, Bool.true_and] at hR
      cases B with
      | false =>
        rw [Bool.false_and] at hR
        subst hR
        go_enter Try.func9, Try.ntmps9
        go_wp2_with (go_at_call 17; refine Hh.out.mono ?_; rintro _ _ ⟨rfl, rfl⟩)
        go_ret
        exact ⟨rfl, rfl⟩
      | true =>
        rw [Bool.true_and] at hR
        have b1 : (x == 1) = R := by rw [← hR]; by_cases e : x = 1 <;> simp [e]
        clear hR
        go_enter Try.func9, Try.ntmps9
        go_wp2_with (go_at_call 17; refine Hh.out.mono ?_; rintro _ _ ⟨rfl, rfl⟩)
        go_ret
        exact ⟨rfl, rfl⟩
    · rw [decide_eq_false h3, Bool.false_and] at hR
      subst hR
      go_enter Try.func9, Try.ntmps9
      go_wp2_with fail
      go_ret
      exact ⟨rfl, rfl⟩
  · rw [decide_eq_false h2, Bool.false_and] at hR
    subst hR
    clear hc
    go_enter Try.func9, Try.ntmps9
    go_wp2_with fail
    go_ret
    exact ⟨rfl, rfl⟩

/-- the sum so far -/
def sumTo (s c : List Int) (at_ k : Nat) : Int := sm (min k (at_ + 1)) fun i => c.getD i 0 * s.getD (at_ - i) 0
theorem sumTo_succ (s c : List Int) {at_ k : Nat} (h : k ≤ at_) : sumTo s c at_ (k + 1) = sumTo s c at_ k + c.getD k 0 * s.getD (at_ - k) 0 := by
  unfold sumTo
  rw [show min (k + 1) (at_ + 1) = k + 1 by omega, show min k (at_ + 1) = k by omega]
  rfl
theorem sumTo_over (s c : List Int) {at_ k : Nat} (h : at_ < k) : sumTo s c at_ (k + 1) = sumTo s c at_ k := by
  unfold sumTo
  rw [show min (k + 1) (at_ + 1) = min k (at_ + 1) by omega]
theorem sumTo_all {p : Int} (s c : List Int) (at_ : Nat) : sumTo s c at_ c.length % p = (pol p c * pol p s).co at_ := by
  rw [Ser.mul_co, cv_mod (f' := fun i => c.getD i 0) (g' := fun i => s.getD i 0) (fun i => by rw [pol_co, Int.emod_emod_of_dvd _ (Int.dvd_refl _)]) (fun i => by rw [pol_co, Int.emod_emod_of_dvd _ (Int.dvd_refl _)])]
  unfold sumTo cv
  rw [sm_piece 0 (min c.length (at_ + 1)) (n := at_ + 1) (by omega) (fun i h => by omega) (fun i h1 h2 => by show c.getD i 0 * _ = 0; rw [getD_over (by omega), Int.zero_mul])]
  congr 1
  exact sm_congr fun i hi => by rw [Nat.zero_add]

set_option maxHeartbeats 1000000 in
theorem r4Sum (p : Int) (v u : Value) (s c : List Int) (at_ : Nat) (w : World) (hp : rightB p = true) (hv : Ints .u64 w v s) (hu : Ints .u64 w u c) (hs : Rng p s) (hc : Rng p c) (hat : at_ < s.length) :
    Calls Try.prog 18 #[.int .u64 p, v, u, .int .i64 at_] w (RetD (.int .u64 ((pol p c * pol p s).co at_)) w) := by
  have hp2 := rightB_true hp
  rw [← sumTo_all]
  have Hp := hid hp; have Hs := hid hs; have Hc := hid hc
  obtain ⟨a, cap, rfl, h1, h2, h3⟩ := hv
  obtain ⟨a', cap', rfl, k1, k2, k3⟩ := hu
  obtain ⟨b, off, rfl, hb, hcell⟩ := h3 (by omega)
  have H3 := hid hcell; have K3 := hid k3
  clear hp hs hc h3 k3 hcell
  go_enter Try.func18, Try.ntmps18
  go_wp2_with fail
  go_loopw [10, 9] (fun i z wr => ∃ (k : Nat) (n : Int), i = .int .i64 k ∧ z = .int .u64 n ∧ k ≤ c.length ∧ 0 ≤ n ∧ n < p ∧ Hid (n = sumTo s c at_ k % p) ∧ Drw w wr) (fun i _ _ => c.length - (intOf i).toNat)
  case atStart => exact ⟨0, 0, rfl, rfl, by omega, by omega, by omega, hid (by unfold sumTo; rw [show min 0 (at_ + 1) = 0 by omega]; simp [sm]), Drw.refl _⟩
  case round =>
    obtain ⟨k, n, rfl, rfl, hk, n0, n1, he, hw⟩ := hrel
    by_cases hlt : k < c.length
    · by_cases hle : k ≤ at_
      · obtain ⟨b', off', rfl, hb', hcell'⟩ := K3.out (by omega)
        obtain ⟨m, rfl⟩ : ∃ m, at_ = k + m := ⟨at_ - k, by omega⟩
        have g' := (hw.ext.cells _ _ hb').trans (hcell' k hlt)
        have g := (hw.ext.cells _ _ hb).trans (H3.out m (by omega))
        have r1 := Hc.out.get hlt
        have r2 := Hs.out.get (k := m) (by omega)
        have hd := sumTo_succ s c (at_ := k + m) (k := k) (by omega)
        rw [show k + m - k = m by omega] at hd
        clear hcell'
        generalize c.getD k 0 = x at *
        generalize s.getD m 0 = y at *
        obtain ⟨q, eq, q0, q1⟩ := name_mod (x * y) hp2.1
        obtain ⟨t, et, t0, t1⟩ := name_mod (n + q) hp2.1
        have Et' := hid (show t = sumTo s c (k + m) (k + 1) % p by rw [hd, ← et, ← eq, ma_r, he.out, ma_l])
        have Eq := hid eq; have Et := hid et
        clear eq et hd he
        go_wp2_with fail
        go_quiet ((first
          | (go_at_call 32; exact quiet_l (rMul p x y q _ Hp.out r1.1 r1.2 r2.1 (by omega) Eq.out))
          | (go_at_call 31; exact quiet_l (rAdd p n q t _ Hp.out n0 n1 q0 q1 Et.out))))
        go_wp2_with fail
        go_roundw
        case rel => exact ⟨k + 1, t, by go_num, rfl, by omega, t0, t1, Et', hw.drewN _⟩
        case measure => simp [intOf]; omega
      · have E' := hid (show n = sumTo s c at_ (k + 1) % p by rw [sumTo_over s c (by omega)]; exact he.out)
        clear he
        go_wp2_with fail
        go_roundw
        case rel => exact ⟨k + 1, n, by go_num, rfl, by omega, n0, n1, E', hw⟩
        case measure => simp [intOf]; omega
    · obtain rfl : k = c.length := by omega
      have E' := hid he.out
      clear he
      go_wp2_with fail
      go_ret
      exact ⟨ret_int E'.out, hw⟩

/-- does the row obey the rule? -/
def obeysB (p : Int) (s c : List Int) : Bool := ruleB p c && (hasB p s && (List.range s.length).all fun i => decide (i + 1 < c.length) || decide ((pol p c * pol p s).co i = 0))
theorem obeysB_iff {p : Int} {s c : List Int} (hs : U64s s) (hc : U64s c) : obeysB p s c = true ↔ ruleB p c = true ∧ Rng p s ∧ Ob (pol p s) (pol p c) (c.length - 1) s.length := by
  unfold obeysB
  simp only [Bool.and_eq_true, List.all_eq_true, List.mem_range, Bool.or_eq_true, decide_eq_true_eq]
  constructor
  · rintro ⟨h1, h2, h3⟩
    obtain ⟨r1, r2, r3, r4, r5⟩ := (ruleB_iff hc).1 h1
    obtain ⟨_, h6⟩ := hasB_true h2
    refine ⟨h1, fun x hx => ⟨(hs x hx).1, h6 x hx⟩, (pol_low c).mono (by omega), by rw [r2.co]; exact r5, fun i h4 h5 => ?_⟩
    rcases h3 i h5 with h | h
    · omega
    · exact h
  · rintro ⟨h1, h2, h3⟩
    obtain ⟨r1, r2, r3, r4, r5⟩ := (ruleB_iff hc).1 h1
    refine ⟨h1, h2.has r1, fun i hi => ?_⟩
    rcases Nat.lt_or_ge (i + 1) c.length with h | h
    · exact .inl h
    · exact .inr (h3.obe i (by omega) hi)

set_option maxHeartbeats 1000000 in
theorem r4Obeys (p : Int) (v u : Value) (s c : List Int) (w : World) (h0 : 0 ≤ p) (h1 : p ≤ 18446744073709551615) (hv : Ints .u64 w v s) (hu : Ints .u64 w u c) (hs : U64s s) (hc : U64s c) :
    Calls Try.prog 14 #[.int .u64 p, v, u] w (RetD (.bool (obeysB p s c)) w) := by
  have c1 := r4Right p u c w h0 h1 hu hc
  have c2 := rHas p v s w h0 h1 hv hs
  obtain ⟨O, hO⟩ : ∃ O, obeysB p s c = O := ⟨_, rfl⟩
  rw [hO]
  have HOr := hid hO
  unfold obeysB at hO
  cases hR : ruleB p c with
  | false =>
    rw [hR, Bool.false_and] at hO
    subst hO
    rw [hR] at c1
    have C1 := hid c1
    clear c1 c2 hR
    obtain ⟨a, cap, rfl, _, _, h3⟩ := hv
    obtain ⟨a', cap', rfl, _, _, k3⟩ := hu
    clear h3 k3 HOr
    go_enter Try.func14, Try.ntmps14
    go_wp2_with (go_at_call 9; refine C1.out.mono ?_; rintro _ _ ⟨rfl, rfl⟩)
    go_ret
    exact ⟨rfl, Drw.refl _⟩
  | true =>
    rw [hR, Bool.true_and] at hO
    rw [hR] at c1
    have C1 := hid c1
    cases hH : hasB p s with
    | false =>
      rw [hH, Bool.false_and] at hO
      subst hO
      rw [hH] at c2
      have C2 := hid c2
      clear c1 c2 hR hH
      obtain ⟨a, cap, rfl, _, _, h3⟩ := hv
      obtain ⟨a', cap', rfl, _, _, k3⟩ := hu
      clear h3 k3 HOr
      go_enter Try.func14, Try.ntmps14
      go_wp2_with (first | (go_at_call 9; refine C1.out.mono ?_; rintro _ _ ⟨rfl, rfl⟩) | (go_at_call 17; refine C2.out.mono ?_; rintro _ _ ⟨rfl, rfl⟩))
      go_ret
      exact ⟨rfl, Drw.refl _⟩
    | true =>
      rw [hH] at c2
      have C2 := hid c2
      obtain ⟨r1, r2, r3, r4, r5⟩ := (ruleB_iff hc).1 hR
      have hsr : Rng p s := fun x hx => ⟨(hs x hx).1, (hasB_true hH).2 x hx⟩
      have c3 : ∀ (i : Nat) (W : World), i < s.length → Drw w W → Calls Try.prog 18 #[.int .u64 p, v, u, .int .i64 i] W (RetD (.int .u64 ((pol p c * pol p s).co i)) W) := fun i W hi hW => r4Sum p v u s c i W r1 (hv.ext hW.ext) (hu.ext hW.ext) hsr r2 hi
      have C3 := hid c3
      have hpr := hid (rightB_true r1)
      rw [hH, Bool.true_and] at hO
      have HO := hid hO
      clear c1 c2 c3 hR hH r1 r2 r5 hsr hO hs hc HOr
      obtain ⟨a, cap, rfl, h4, h5, h3⟩ := hv
      obtain ⟨a', cap', rfl, k4, k5, k3⟩ := hu
      clear h3 k3
      go_enter Try.func14, Try.ntmps14
      go_wp2_with (first | (go_at_call 9; refine C1.out.mono ?_; rintro _ _ ⟨rfl, rfl⟩) | (go_at_call 17; refine C2.out.mono ?_; rintro _ _ ⟨rfl, rfl⟩))
      go_loopw [7] (fun i wr => ∃ k : Nat, i = .int .i64 k ∧ k ≤ s.length ∧ Hid (∀ j, j < k → j + 1 < c.length ∨ (pol p c * pol p s).co j = 0) ∧ Drw w wr) (fun i _ => s.length - (intOf i).toNat)
      case atStart => exact ⟨0, rfl, Nat.zero_le _, hid (by simp), Drw.refl _⟩
      case round =>
        obtain ⟨k, rfl, hk, hall, hw⟩ := hrel
        by_cases hlt : k < s.length
        · by_cases hc0 : k + 1 < c.length
          · go_wp2_with fail
            go_roundw
            case rel => exact ⟨k + 1, by go_num, by omega, hid (fun j hj => by
              by_cases e : j = k
              · rw [e]; exact .inl hc0
              · exact hall.out j (by omega)), hw⟩
            case measure => simp [intOf]; omega
          · have c4 := hid (C3.out k wr hlt hw)
            obtain ⟨z, ez⟩ : ∃ z, (pol p c * pol p s).co k = z := ⟨_, rfl⟩
            have hz : 0 ≤ z ∧ z < p := ez ▸ Ser.co_range _ hpr.out.1 k
            have hp2 := hpr.out
            rw [ez] at c4
            have Ez := hid ez
            clear ez
            by_cases hz0 : z = 0
            · have b1 : (z != 0) = false := by simp [hz0]
              have Hz := hid hz0
              clear hz0
              go_wp2_with (go_at_call 18; refine c4.out.mono ?_; rintro _ w5 ⟨rfl, x5⟩)
              go_roundw
              case rel => exact ⟨k + 1, by go_num, by omega, hid (fun j hj => by
                by_cases e : j = k
                · rw [e, Ez.out]; exact .inr Hz.out
                · exact hall.out j (by omega)), hw.trans x5⟩
              case measure => simp [intOf]; omega
            · have b1 : (z != 0) = true := by simp [hz0]
              have hf := hid (show O = false by
                rw [← HO.out, Bool.eq_false_iff]
                intro h
                have := List.all_eq_true.1 h k (List.mem_range.2 hlt)
                rw [decide_eq_false hc0, Bool.false_or, decide_eq_true_eq, Ez.out] at this
                exact hz0 this)
              clear hz0
              go_wp2_with (go_at_call 18; refine c4.out.mono ?_; rintro _ w5 ⟨rfl, x5⟩)
              go_ret
              exact ⟨ret_bool hf.out.symm, hw.trans x5⟩
        · have hf := hid (show O = true by
            rw [← HO.out, List.all_eq_true]
            intro j hj
            have := hall.out j (by have := List.mem_range.1 hj; omega)
            simpa using this)
          clear hall
          go_wp2_with fail
          go_ret
          exact ⟨ret_bool hf.out.symm, hw⟩
end Go.Proofs.Ytbpbagejblbacaa
