/- What package series answers of rules: Right, Obeys, Poly, and by how much a row's last number fails one. -/
import Derived.Test.YtbpbagejblbacaaRuleM
import Derived.Test.YtbpbagejblbacaaRef04
import Derived.Test.YtbpbagejblbacaaClone
import Derived.Test.YtbpbagejblbacaaDot
import Derived.Deep.RegionHeld3
import Derived.Deep.DrawnRows
namespace Go.Proofs.Ytbpbagejblbacaa
open Go.RowKit

set_option maxRecDepth 100000 in
set_option maxHeartbeats 400000 in
theorem sRight (p : Int) (v : Value) (c : List Int) (w : World) (h0 : 0 ≤ p) (h1 : p ≤ 18446744073709551615) (hv : Ints .u64 w v c) (hx : U64s c) :
    Calls Try.prog 12 #[.int .u64 p, v] w fun e w' => e = .returned (.bool (ruleB p c)) ∧ w = w' := by
  have hh := has_any p v c w h0 h1 hv hx
  obtain ⟨R, hR⟩ : ∃ R, ruleB p c = R := ⟨_, rfl⟩
  rw [hR]
  unfold ruleB at hR
  obtain ⟨B, hB⟩ : ∃ B, hasB p c = B := ⟨_, rfl⟩
  rw [hB] at hR hh
  obtain ⟨a, cap, rfl, hc1, hc2, hc⟩ := hv
  have Hh := hid hh
  clear hB hh
  by_cases h2 : 0 < c.length
  · obtain ⟨b, off, rfl, hb, hcell⟩ := hc h2
    have g := hcell 0 h2
    have gb := U64s.get hx h2
    obtain ⟨x, ex⟩ : ∃ x, c.getD 0 0 = x := ⟨_, rfl⟩
    rw [ex] at g hR gb
    rw [Nat.add_zero] at g
    rw [decide_eq_true h2, Bool.true_and] at hR
    clear hc hcell ex
    by_cases h3 : c.length < 258
    · rw [decide_eq_true h3, Bool.true_and] at hR
      have t3 : (c.length : Int) ≤ 257 := by omega
      by_cases hx1 : x = 1
      · rw [decide_eq_true hx1, Bool.and_true] at hR
        subst hR
        subst hx1
        go_enter Try.func12, Try.ntmps12
        go_wp2_with (go_at_call 22; refine Hh.out.mono ?_; rintro _ _ ⟨rfl, rfl⟩)
        go_ret
        exact ⟨rfl, rfl⟩
      · rw [decide_eq_false hx1, Bool.and_false] at hR
        subst hR
        have b1 : (x == 1) = false := by simp [hx1]
        clear hx1
        go_enter Try.func12, Try.ntmps12
        go_wp2_with fail
        go_ret
        exact ⟨rfl, rfl⟩
    · rw [decide_eq_false h3, Bool.false_and] at hR
      subst hR
      go_enter Try.func12, Try.ntmps12
      go_wp2_with fail
      go_ret
      exact ⟨rfl, rfl⟩
  · rw [decide_eq_false h2, Bool.false_and] at hR
    subst hR
    clear hc
    go_enter Try.func12, Try.ntmps12
    go_wp2_with fail
    go_ret
    exact ⟨rfl, rfl⟩

set_option maxHeartbeats 400000 in
theorem turned_any (v : Value) (xs : List Int) (w : World) (hv : Ints .u64 w v xs) (h1 : 1 ≤ xs.length) (hl : xs.length ≤ 1000000) :
    Calls Try.prog 27 #[v] w fun e w' => ∃ g cap, e = .returned (.slice (some ⟨g, 0, none⟩) xs.length cap) ∧ xs.length ≤ cap ∧ cap ≤ 9223372036854775807 ∧ w.heap.size ≤ g ∧ WRow w' g 0 xs.reverse ∧ Ext w w' := by
  have c1 := hid (clone_any v xs w hv hl)
  obtain ⟨n, hn⟩ : ∃ n, xs.length = n := ⟨_, rfl⟩
  have Hn := hid hn
  rw [hn] at c1 h1 hl ⊢
  clear hv hn
  go_enter Try.func27, Try.ntmps27
  go_wp2_with fail
  refine c1.out.mono ?_
  rintro _ w1 ⟨a, cap, rfl, k1, k2, k3, x1⟩
  obtain ⟨g, rfl, hg, hr⟩ := k3 (by omega)
  have Hr := hid hr
  clear k3 hr
  go_wp2_with fail
  refine (reverse_any g n cap xs w1 w Hn.out h1 hl Hr.out x1 hg).mono ?_
  rintro _ w2 ⟨⟨u, rfl⟩, r2, x2⟩
  have R2 := hid r2
  clear r2
  go_wp2_with fail
  go_ret
  exact ⟨g, cap, rfl, k1, k2, hg, R2.out, x2⟩

set_option maxHeartbeats 400000 in
theorem breach_any (p : Int) (v u : Value) (s c : List Int) (w : World) (hp : rightB p = true) (hv : Ints .u64 w v s) (hu : Ints .u64 w u c.reverse) (hs : Rng p s) (hc : Rng p c) (h0 : 1 ≤ c.length) (h : c.length ≤ s.length) :
    Calls Try.prog 29 #[.int .u64 p, v, u] w (RetD (.int .u64 ((pol p c * pol p s).co (s.length - 1))) w) := by
  have hp2 := rightB_true hp
  obtain ⟨r, er⟩ : ∃ r, (pol p c * pol p s).co (s.length - 1) = r := ⟨_, rfl⟩
  have E := hid ((breach_at hs hc h0 h).trans er)
  rw [er]
  have hd := hid (hv)
  have Hu := hid hu
  have h1 := hid ((Rng.has (xs := s.drop (s.length - c.length)) (fun x hx => hs x (List.mem_of_mem_drop hx)) hp))
  have h2 := hid ((Rng.has (xs := c.reverse) (fun x hx => hc x (List.mem_reverse.1 hx)) hp))
  have u1 := hid ((hs.u64 hp2.2).drop (s.length - c.length))
  have u2 := hid (show U64s c.reverse from fun x hx => hc.u64 hp2.2 x (List.mem_reverse.1 hx))
  have hl : Hid ((s.drop (s.length - c.length)).length = c.reverse.length) := hid (by simp; omega)
  obtain ⟨a, cap, rfl, k1, k2, k3⟩ := hv
  obtain ⟨a', cap', rfl, m1, m2, m3⟩ := hu
  obtain ⟨b, off, rfl, hb, hcell⟩ := k3 (by omega)
  have lr : c.reverse.length = c.length := List.length_reverse
  rw [lr] at m1 Hu ⊢
  obtain ⟨n, hn⟩ : ∃ n, s.length - c.length = n := ⟨_, rfl⟩
  have hsub : (s.length : Int) - (c.length : Int) = (n : Int) := by omega
  have hn1 : n ≤ s.length := by omega
  have hln : s.length - n = c.length := by omega
  have hn2 : n < cap := by omega
  rw [hn] at h1 u1 hl E
  have hdr := hid (hd.out.drop n hn1 (some ⟨b, off + n, none⟩) (fun _ => rfl) c.length (by omega) (cap - n) rfl)
  clear k3 m3 hcell er hs hc hp lr
  go_enter Try.func29, Try.ntmps29
  go_wp2_with fail
  refine (dotD_as p r _ _ _ _ _ hdr.out Hu.out u1.out u2.out hl.out h1.out h2.out E.out).mono ?_
  rintro _ w1 ⟨rfl, d1⟩
  go_wp2_with fail
  go_ret
  exact ⟨rfl, d1⟩

set_option maxHeartbeats 400000 in
theorem sPoly_no (p : Int) (v : Value) (c : List Int) (w : World) (h0 : 0 ≤ p) (h1 : p ≤ 18446744073709551615) (hv : Ints .u64 w v c) (hx : U64s c) (h : ruleB p c = false) :
    Calls Try.prog 11 #[.int .u64 p, v] w (Ret (.tuple #[.slice none 0 0, .int .i64 1]) w) := by
  have c1 := sRight p v c w h0 h1 hv hx
  rw [h] at c1
  have C1 := hid c1
  clear c1 hv hx h
  go_enter Try.func11, Try.ntmps11
  go_wp2_with (go_at_call 12; refine C1.out.mono ?_; rintro _ _ ⟨rfl, rfl⟩)
  go_ret2
  exact ⟨rfl, (by repeat (first | exact Ext.refl _ | assumption | refine Ext.drew ?_ | refine Ext.drewN ?_ _ | refine Ext.alloc ?_ _ | refine Ext.trans ?_ (by assumption)))⟩
set_option maxHeartbeats 400000 in
theorem sPoly_yes (p : Int) (v : Value) (c : List Int) (w : World) (hv : Ints .u64 w v c) (h : ruleB p c = true) (hx : U64s c) :
    Calls Try.prog 11 #[.int .u64 p, v] w fun e w' => ∃ u, e = .returned (.tuple #[u, .int .i64 0]) ∧ Ints .u64 w' u c.reverse ∧ Ext w w' := by
  obtain ⟨r1, r2, r3, r4, r5⟩ := (ruleB_iff hx).1 h
  have hp2 := rightB_true r1
  have c1 := sRight p v c w (by omega) (by omega) hv hx
  rw [h] at c1
  have C1 := hid c1
  have C2 := hid (turned_any v c w hv (by omega) (by omega))
  clear c1 hx h hv r1 r2 r5
  go_enter Try.func11, Try.ntmps11
  go_wp2_with (go_at_call 12; refine C1.out.mono ?_; rintro _ _ ⟨rfl, rfl⟩)
  refine C2.out.mono ?_
  rintro _ w1 ⟨g, cap, rfl, k1, k2, k3, k4, x1⟩
  have K4 := hid k4
  clear k4
  go_wp2_with fail
  go_ret2
  exact ⟨_, rfl, K4.out.ints' List.length_reverse k1 k2, x1⟩

set_option maxHeartbeats 1000000 in
theorem sObeys (p : Int) (v u : Value) (s c : List Int) (w : World) (h0 : 0 ≤ p) (h1 : p ≤ 18446744073709551615) (hv : Ints .u64 w v s) (hu : Ints .u64 w u c) (hs : U64s s) (hc : U64s c) (hl : s.length ≤ 1000000) :
    Calls Try.prog 13 #[.int .u64 p, v, u] w (Ret (.bool (obeysB p s c)) w) := by
  have c1 := sRight p u c w h0 h1 hu hc
  have c2 := has_any p v s w h0 h1 hv hs
  obtain ⟨O, hO⟩ : ∃ O, obeysB p s c = O := ⟨_, rfl⟩
  rw [hO]
  unfold obeysB at hO
  cases hR : ruleB p c with
  | false =>
    rw [hR, Bool.false_and] at hO
    subst hO
    rw [hR] at c1
    have C1 := hid c1
    clear c1 c2 hR
    obtain ⟨a, cap, rfl, _, _, h3⟩ := hv
    obtain ⟨a', cap', rfl, _, _, k3⟩ := hu
    clear h3 k3
    go_enter Try.func13, Try.ntmps13
    go_wp2_with (go_at_call 12; refine C1.out.mono ?_; rintro _ _ ⟨rfl, rfl⟩)
    go_ret
    exact ⟨rfl, Ext.refl _⟩
  | true =>
    rw [hR, Bool.true_and] at hO
    rw [hR] at c1
    have C1 := hid c1
    cases hH : hasB p s with
    | false =>
      rw [hH, Bool.false_and] at hO
      subst hO
      rw [hH] at c2
      have C2 := hid c2
      clear c1 c2 hR hH
      obtain ⟨a, cap, rfl, _, _, h3⟩ := hv
      obtain ⟨a', cap', rfl, _, _, k3⟩ := hu
      clear h3 k3
      go_enter Try.func13, Try.ntmps13
      go_wp2_with (first | (go_at_call 12; refine C1.out.mono ?_; rintro _ _ ⟨rfl, rfl⟩) | (go_at_call 22; refine C2.out.mono ?_; rintro _ _ ⟨rfl, rfl⟩))
      go_ret
      exact ⟨rfl, Ext.refl _⟩
    | true =>
      rw [hH] at c2
      have C2 := hid c2
      obtain ⟨r1, r2, r3, r4, r5⟩ := (ruleB_iff hc).1 hR
      have hsr : Rng p s := fun x hx => ⟨(hs x hx).1, (hasB_true hH).2 x hx⟩
      have C3 := hid (turned_any u c w hu (by omega) (by omega))
      have hpr := hid (rightB_true r1)
      rw [hH, Bool.true_and] at hO
      have HO := hid hO
      have Hv := hid hv; have R1 := hid r1; have R2 := hid r2; have HS := hid hsr
      clear c1 c2 hR hH r1 r2 r5 hsr hO hs hc
      obtain ⟨a, cap, rfl, h4, h5, h3⟩ := hv
      obtain ⟨a', cap', rfl, k4, k5, k3⟩ := hu
      clear h3 k3
      go_enter Try.func13, Try.ntmps13
      go_wp2_with (first | (go_at_call 12; refine C1.out.mono ?_; rintro _ _ ⟨rfl, rfl⟩) | (go_at_call 22; refine C2.out.mono ?_; rintro _ _ ⟨rfl, rfl⟩) | fail)
      refine C3.out.mono ?_
      rintro _ w1 ⟨g, gc, rfl, g1, g2, g3, g4, x1⟩
      have G4 := hid (g4.ints' List.length_reverse g1 g2)
      clear g4 g3
      have y1 : Ext w w1 := x1
      have hc0 : 1 ≤ c.length := by omega
      clear x1
      go_wp2_with fail
      go_loopw [8] (fun i wr => ∃ k : Nat, i = .int .i64 k ∧ c.length ≤ k ∧ (k ≤ s.length + 1 ∨ k = c.length) ∧ Hid (∀ j, j + 1 < k → j + 1 < c.length ∨ (pol p c * pol p s).co j = 0) ∧ Ext w1 wr ∧ Ext w wr) (fun i _ => s.length + 1 - (intOf i).toNat)
      case atStart => exact ⟨c.length, rfl, Nat.le_refl _, .inr rfl, hid (fun j hj => .inl hj), Ext.refl _, y1⟩
      case round =>
        obtain ⟨k, rfl, hk1, hk2, hall, hw1, hw⟩ := hrel
        by_cases hlt : k ≤ s.length
        · have hlen : (s.take k).length = k := by simp; omega
          have hb := breach_any p (.slice a k cap) _ (s.take k) c wr R1.out ((Hv.out.ext hw).take' k hlt) (G4.out.ext hw1) (HS.out.take k) R2.out hc0 (by omega)
          rw [hlen] at hb
          obtain ⟨z, ez⟩ : ∃ z, (pol p c * pol p (s.take k)).co (k - 1) = z := ⟨_, rfl⟩
          have hz : 0 ≤ z ∧ z < p := ez ▸ Ser.co_range _ hpr.out.1 _
          have hp2 := hpr.out
          have Ez := hid (show (pol p c * pol p s).co (k - 1) = z by rw [← ez]; exact Ser.mul_co_congr fun j hj => (pol_take_co s (by omega)).symm)
          rw [ez] at hb
          have HB := hid hb
          have hlc : (k : Int) ≤ (cap : Int) := by omega
          clear hb ez hlen
          by_cases hz0 : z = 0
          · have b1 : (z != 0) = false := by simp [hz0]
            have Hz := hid hz0
            clear hz0
            go_wp2_with (go_at_call 29; refine HB.out.mono ?_; rintro _ w5 ⟨rfl, x5⟩)
            have x6 := x5.ext
            go_roundw
            case rel => exact ⟨k + 1, by go_num, by omega, .inl (by omega), hid (fun j hj => by
              by_cases e : j + 1 = k
              · right; rw [show j = k - 1 by omega, Ez.out]; exact Hz.out
              · exact hall.out j (by omega)), hw1.trans x6, hw.trans x6⟩
            case measure => simp [intOf]; omega
          · have b1 : (z != 0) = true := by simp [hz0]
            have hf := hid (show O = false by
              rw [← HO.out, Bool.eq_false_iff]
              intro h
              have := List.all_eq_true.1 h (k - 1) (List.mem_range.2 (by omega))
              rw [decide_eq_false (by omega), Bool.false_or, decide_eq_true_eq, Ez.out] at this
              exact hz0 this)
            clear hz0
            go_wp2_with (go_at_call 29; refine HB.out.mono ?_; rintro _ w5 ⟨rfl, x5⟩)
            have x6 := x5.ext
            go_ret
            exact ⟨ret_bool hf.out.symm, hw.trans x6⟩
        · have hf := hid (show O = true by
            rw [← HO.out, List.all_eq_true]
            intro j hj
            have := hall.out j (by have := List.mem_range.1 hj; omega)
            simpa using this)
          clear hall
          go_wp2_with fail
          go_ret
          exact ⟨ret_bool hf.out.symm, hw⟩
end Go.Proofs.Ytbpbagejblbacaa
