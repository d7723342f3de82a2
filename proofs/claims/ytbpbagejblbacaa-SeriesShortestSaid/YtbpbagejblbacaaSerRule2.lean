/- The shortest rule of a row: series.Rule. -/
import Derived.Test.YtbpbagejblbacaaSerRule
namespace Go.Proofs.Ytbpbagejblbacaa
open Go.RowKit

/-- what Rule tells of a row: a rule that it obeys, and no shorter one is obeyed -/
def RuleIs (p : Int) (s c : List Int) : Prop :=
  ruleB p c = true ∧ Rng p c ∧ 1 ≤ c.length ∧ c.length ≤ s.length + 1 ∧ Ob (pol p s) (pol p c) (c.length - 1) s.length ∧ ∀ c' l', Ob (pol p s) c' l' s.length → c.length - 1 ≤ l'
def RetRule (p : Int) (s : List Int) (w : World) (e : Ending) (w' : World) : Prop :=
  (∃ v c, e = .returned (.tuple #[v, .int .i64 0]) ∧ Ints .u64 w' v c ∧ Ext w w' ∧ RuleIs p s c) ∨
  (∃ d, e = .returned (.tuple #[.slice none 0 0, .int .i64 5]) ∧ Ext w w' ∧ 0 < d ∧ d < p ∧ unitB p d = false)

set_option maxHeartbeats 400000 in
theorem sRule_arg (p : Int) (v : Value) (s : List Int) (w : World) (h0 : 0 ≤ p) (h1 : p ≤ 18446744073709551615) (hv : Ints .u64 w v s) (hs : U64s s) (h : hasB p s = false) :
    Calls Try.prog 19 #[.int .u64 p, v] w (Ret (.tuple #[.slice none 0 0, .int .i64 1]) w) := by
  have c1 := hid (has_no p v s w h0 h1 hv hs h)
  clear hv hs h
  go_enter Try.func19, Try.ntmps19
  go_wp2_with (go_at_call 22; refine c1.out.mono ?_; rintro _ _ ⟨rfl, rfl⟩)
  go_ret2
  exact ⟨rfl, (by repeat (first | exact Ext.refl _ | assumption | refine Ext.drew ?_ | refine Ext.drewN ?_ _ | refine Ext.alloc ?_ _ | refine Ext.trans ?_ (by assumption)))⟩

set_option maxRecDepth 100000 in
set_option maxHeartbeats 2000000 in
theorem sRule (p : Int) (v : Value) (s : List Int) (w : World) (hp : rightB p = true) (hv : Ints .u64 w v s) (hs : Rng p s) (hl : s.length ≤ 256) :
    Calls Try.prog 19 #[.int .u64 p, v] w (RetRule p s w) := by
  have hp2 := rightB_true hp
  have C1 := hid (has_yes p v s w hv (hs.u64 hp2.2) (hs.has hp))
  have Hv := hid hv; have Hs := hid hs; have Hp := hid hp
  obtain ⟨a, cap, rfl, k1, k2, k3⟩ := hv
  clear k3 hs hp
  obtain ⟨n, hn⟩ : ∃ n, s.length = n := ⟨_, rfl⟩
  have Hn := hid hn
  rw [hn] at C1 Hv hl k1 ⊢
  clear hn
  go_enter Try.func19, Try.ntmps19
  go_wp2_with (go_at_call 22; refine C1.out.mono ?_; rintro _ _ ⟨rfl, rfl⟩)
  go_loopw [26, 6, 7, 8] (fun i rv ov fv wr => ∃ (k n1 n2 c1 c2 : Nat) (a1 a2 : Option Addr) (rule older : List Int) (d : Int), i = .int .i64 k ∧ rv = .slice a1 n1 c1 ∧ ov = .slice a2 n2 c2 ∧ fv = .int .u64 d ∧
    Hid (rule.length = n1) ∧ Hid (older.length = n2) ∧ 1 ≤ n1 ∧ n1 ≤ k + 1 ∧ 1 ≤ n2 ∧ n1 + n2 ≤ k + 2 ∧ k ≤ n ∧ 0 < d ∧ d < p ∧ Hid (Ints .u64 wr (.slice a1 n1 c1) rule) ∧ Hid (Ints .u64 wr (.slice a2 n2 c2) older) ∧ Hid (RInv p s rule older d k) ∧ Ext w wr) (fun i _ _ _ _ => n - (intOf i).toNat)
  case atStart =>
    exact ⟨0, 1, 1, 1, 1, _, _, [1], [1], 1, rfl, rfl, rfl, rfl, hid rfl, hid rfl, by omega, by omega, by omega, by omega, by omega, by omega, by omega, hid (Ints.new1.alloc _), hid (Ints.at1 (by simp)), hid (RInv.start hp2.1 s), (by repeat (first | exact Ext.refl _ | assumption | refine Ext.drew ?_ | refine Ext.drewN ?_ _ | refine Ext.alloc ?_ _ | refine Ext.trans ?_ (by assumption)))⟩
  case round =>
    obtain ⟨k, n1, n2, c1, c2, a1, a2, rule, older, d, rfl, rfl, rfl, rfl, Hr, Ho, g1, g2, g3, g4, g5, g6, g7, Ir, Io, HI, hx⟩ := hrel
    by_cases hlt : k < n
    · have hkc : (k : Int) + 1 ≤ (cap : Int) := by omega
      have h0k : (0 : Int) ≤ (k : Int) + 1 := by omega
      have hwk : IntKind.i64.wrap ((k : Int) + 1) = (k : Int) + 1 := by simp [IntKind.wrap, IntKind.bits, IntKind.signed]; omega
      have hT := fun (W : World) (hW : Ext wr W) => turned_any (.slice a1 n1 c1) rule W (Ir.out.ext hW) (by rw [Hr.out]; omega) (by rw [Hr.out]; omega)
      rw [Hr.out] at hT
      obtain ⟨z, ez⟩ : ∃ z, (pol p rule * pol p s).co k = z := ⟨_, rfl⟩
      have hz := Ser.co_range (pol p rule * pol p s) hp2.1 k
      rw [ez] at hz
      have hB := fun (W : World) (g gc : Nat) (hW : Ext wr W) (q1 : n1 ≤ gc) (q2 : gc ≤ 9223372036854775807) (q3 : WRow W g 0 rule.reverse) => breach_any p (.slice a (k + 1) cap) (.slice (some ⟨g, 0, none⟩) n1 gc) (s.take (k + 1)) rule W Hp.out
        ((Hv.out.ext (hx.trans hW)).take' (k + 1) (by rw [Hn.out]; omega)) (q3.ints' (by rw [List.length_reverse]; exact Hr.out) q1 q2) (Hs.out.take _) HI.out.r1 (by rw [Hr.out]; omega) (by rw [Hr.out, List.length_take, Hn.out]; omega)
      have hval : (pol p rule * pol p (s.take (k + 1))).co ((s.take (k + 1)).length - 1) = z := by
        rw [show (s.take (k + 1)).length - 1 = k by rw [List.length_take, Hn.out]; omega, ← ez]
        exact Ser.mul_co_congr fun i hi => pol_take_co s (by omega)
      rw [hval] at hB
      have HT := hid hT; have HB := hid hB; have Ez := hid ez
      clear hT hB hval ez
      go_wp2_with fail
      go_region_held3 (fun w' => True) (trivial)
        ((first | (go_at_call 27; refine (HT.out _ ((Ext.refl wr).drew)).mono ?_; rintro _ w5 ⟨gg, gc, rfl, q1, q2, q3, q4, x5⟩) | (go_at_call 29; refine (HB.out _ gg gc (Ext.trans ((Ext.refl wr).drew) x5) q1 q2 q4).mono ?_; rintro _ w6 ⟨rfl, x6⟩)))
      have e6 : Ext wr w6 := (((Ext.refl wr).drew).trans x5).trans x6.ext
      have y6 : Ext w w6 := hx.trans e6
      clear x5 x6 q4
      by_cases hz0 : z = 0
      · have b1 : (z == 0) = true := by simp [hz0]
        have HI2 := hid (HI.out.stay (by rw [Ez.out]; exact hz0))
        clear hz0
        go_wp2_with fail
        go_roundw
        case rel => exact ⟨k + 1, n1, n2, c1, c2, a1, a2, rule, older, d, by go_num, rfl, rfl, rfl, Hr, Ho, g1, by omega, g3, by omega, by omega, g6, g7, hid (Ir.out.ext e6), hid (Io.out.ext e6), HI2, y6⟩
        case measure => simp [intOf]; omega
      · have b1 : (z == 0) = false := by simp [hz0]
        have Hz := hid hz0
        clear hz0
        obtain ⟨U, hU⟩ : ∃ U, unitB p d = U := ⟨_, rfl⟩
        cases U with
        | false =>
          have HU := hid hU
          clear hU
          go_wp2_with fail
          refine (div_zero p z d w6 Hp.out hz.1 hz.2 (by omega) g7 HU.out).mono ?_
          rintro _ w7 ⟨rfl, x7⟩
          go_wp2_with fail
          go_ret2
          exact .inr ⟨d, rfl, y6.trans x7, g6, g7, HU.out⟩
        | true =>
          have hiv := unit_inv p d hp2.1 (by omega) hU
          obtain ⟨q, eq, q0, q01⟩ := name_mod (p := p) (z * minv p d) hp2.1
          have hqd : q * d % p = z := by rw [← eq, mm_l, Int.mul_assoc, Int.mul_comm _ d, ← mm_r, hiv, Int.mul_one]; exact mod_small hz.1 hz.2
          obtain ⟨m, hm⟩ : ∃ m, k + 3 - n1 - n2 = m := ⟨_, rfl⟩
          have hmi : (k : Int) + 3 - (n1 : Int) - (n2 : Int) = (m : Int) := by omega
          have hst := HI.out.step hp2.1 Ez.out Hz.out hqd
          rw [Hr.out, Ho.out, hm] at hst
          have hnl := mendL_len (p := p) rule older q m
          rw [Hr.out, Ho.out] at hnl
          have hmb : n1 ≤ max n1 (m + n2) ∧ max n1 (m + n2) ≤ k + 2 ∧ (n1 < max n1 (m + n2) → max n1 (m + n2) + n1 ≤ k + 3) ∧ (max n1 (m + n2) ≤ n1 → max n1 (m + n2) = n1) := by omega
          have Eq := hid eq; have HU := hid hU
          have HM := hid (fun W (hW : Ext wr W) => mended_any p q m (.slice a1 n1 c1) (.slice a2 n2 c2) rule older W Hp.out (Ir.out.ext hW) (Io.out.ext hW) HI.out.r1 HI.out.o1 q0 q01 (by rw [Hr.out, Ho.out]; omega) (by rw [Ho.out]; omega))
          clear eq hU hiv hqd hm
          obtain ⟨next, hnx⟩ : ∃ next, mendL p rule older q m = next := ⟨_, rfl⟩
          rw [hnx] at hst hnl HM
          obtain ⟨nn, hnn⟩ : ∃ nn, max n1 (m + n2) = nn := ⟨_, rfl⟩
          rw [hnn] at hnl hmb
          rw [hnl] at hst
          obtain ⟨m1, m2, m3, m4⟩ := hmb
          have Hst := hid hst; have Hnl := hid hnl
          clear hnx hnn hst hnl
          go_wp2_with fail
          refine (div_as p z d q w6 Hp.out hz.1 hz.2 (by omega) g7 HU.out Eq.out).mono ?_
          rintro _ w7 ⟨rfl, x7⟩
          have e7 : Ext wr w7 := e6.trans x7
          go_wp2_with fail
          refine (HM.out w7 e7).mono ?_
          rintro _ w8 ⟨v8, rfl, i8, x8⟩
          have e8 : Ext wr w8 := e7.trans x8
          have I8 := hid i8
          obtain ⟨a8, c8, rfl, _, _, j3⟩ := i8
          clear j3
          have hl8 := Hnl.out
          rw [hl8] at I8 ⊢
          by_cases hg : n1 < nn
          · have m3' := m3 hg
            have hs8 := hid (Hst.out.1 hg)
            clear m3 m4
            go_wp2_with fail
            go_roundw
            case rel => exact ⟨k + 1, nn, n1, c8, c1, a8, a1, next, rule, z, by go_num, rfl, rfl, rfl, Hnl, Hr, by omega, by omega, g1, by omega, by omega, by have := Hz.out; omega, hz.2, I8, hid (Ir.out.ext e8), hs8, hx.trans e8⟩
            case measure => simp [intOf]; omega
          · have hs8 := hid (Hst.out.2 (by omega))
            have m4' := m4 (by omega)
            clear m3 m4
            subst m4'
            go_wp2_with fail
            go_roundw
            case rel => exact ⟨k + 1, nn, n2, c8, c2, a8, a2, next, older, d, by go_num, rfl, rfl, rfl, Hnl, Ho, by omega, by omega, g3, by omega, by omega, g6, g7, I8, hid (Io.out.ext e8), hs8, hx.trans e8⟩
            case measure => simp [intOf]; omega
    · obtain rfl : k = n := by omega
      go_wp2_with fail
      go_ret2
      refine .inl ⟨_, rule, rfl, Ir.out, hx, ?_⟩
      have r := HI.out
      obtain ⟨nb, hma, _⟩ := r.ma
      rw [← Hn.out] at hma
      exact ⟨(ruleB_iff (r.r1.u64 hp2.2)).2 ⟨Hp.out, r.r1, by rw [Hr.out]; omega, by rw [Hr.out]; omega, r.r2⟩, r.r1, by rw [Hr.out]; omega, by rw [Hr.out, Hn.out]; omega, hma.ob, hma.least⟩
end Go.Proofs.Ytbpbagejblbacaa
