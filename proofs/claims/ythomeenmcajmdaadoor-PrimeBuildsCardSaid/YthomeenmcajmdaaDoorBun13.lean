/- What the texts Small, PartsMath, PowC, Clos, BuildA, PBuildM, Awake02 show, in one text. -/
import Derived.Test.YthomeenmcajmdaaDoorBun11
import Derived.Test.YthomeenmcajmdaaDoorBun12
import Derived.Test.YthomeenmcajmdaaDoorBun06
import Derived.Test.YthomeenmcajmdaaDoorBun07
import Derived.Test.YthomeenmcajmdaaDoorBun14
import Derived.Test.YthomeenmcajmdaaDoorBun01
/- What prime.Small answers, and Build of a number that is none. -/
namespace Go.Proofs.YthomeenmcajmdaaDoor
open Go.RowKit Go.Maps

def smallB (n : Int) : Bool := if 4294967296 ≤ n then false else decide ((partsD n).2 = 0) && decide ((partsD n).1.length = 1) && decide (((partsD n).1.getD 0 (0, 0)).2 = 1)

set_option maxHeartbeats 1000000 in
theorem Small_any (n : Int) (w : World) (h0 : 0 ≤ n) (h1 : n ≤ 18446744073709551615) :
    Calls Tryd.prog 14 #[.int .u64 n] w (Ret (.bool (smallB n)) w) := by
  by_cases hb : 4294967296 ≤ n
  · have e : smallB n = false := by rw [smallB, if_pos hb]
    rw [e]
    clear e
    go_enter Tryd.func14, Tryd.ntmps14
    go_wp2_with fail
    go_ret
    exact ⟨rfl, (by repeat (first | exact Ext.refl _ | assumption | refine Ext.drew ?_ | refine Ext.drewN ?_ _ | refine Ext.alloc ?_ _ | refine Ext.trans ?_ (by assumption)))⟩
  · have e : smallB n = (decide ((partsD n).2 = 0) && decide ((partsD n).1.length = 1) && decide (((partsD n).1.getD 0 (0, 0)).2 = 1)) := by rw [smallB, if_neg hb]
    have hP := Parts_any n
    obtain ⟨⟨ps, er⟩, ed⟩ : ∃ x, partsD n = x := ⟨_, rfl⟩
    have hO := partsD_Ok n
    rw [ed] at e hP hO
    simp only at e hO
    have E := hid e; have HP := hid @hP; have HO := hid hO
    clear e hP ed hO
    by_cases h0e : er = 0
    · have b0 : (er == 0) = true := by simpa using h0e
      by_cases hl : ps.length = 1
      · have b1 : ((ps.length : Int) == 1) = true := by simp; omega
        have hE := E.out
        rw [decide_eq_true h0e, decide_eq_true hl, Bool.true_and, Bool.true_and] at hE
        have HE := hid hE
        have hg := HO.out.get (k := 0) (by omega)
        obtain ⟨⟨q1, q2⟩, eq⟩ : ∃ q, ps.getD 0 (0, 0) = q := ⟨_, rfl⟩
        have EQ := hid eq
        have HL := hid hl
        clear hE h0e hl hg eq
        go_enter Tryd.func14, Tryd.ntmps14
        go_wp2_with fail
        refine (HP.out _ h0 h1).mono ?_; rintro _ w1 ⟨v, rfl, hrow, x1⟩
        have hv := Parts.own hrow
        obtain ⟨a, cap, rfl, p1, p2, p3⟩ := hv
        obtain ⟨b, off, rfl, hbl, hc⟩ := p3 (by have := HL.out; omega)
        obtain ⟨c1, c2⟩ := hc 0 (by have := HL.out; omega)
        simp only [Nat.zero_mul, Nat.add_zero] at c1 c2
        rw [EQ.out] at c1 c2
        simp only at c1 c2
        clear hrow p3 hc
        have hl1 := HL.out
        go_wp2_with fail
        go_ret
        refine ⟨ret_bool ?_, (by repeat (first | exact Ext.refl _ | assumption | refine Ext.drew ?_ | refine Ext.drewN ?_ _ | refine Ext.alloc ?_ _ | refine Ext.trans ?_ (by assumption)))⟩
        rw [HE.out, EQ.out]
        rw [Bool.eq_iff_iff]; simp
      · have b1 : ((ps.length : Int) == 1) = false := by simp; omega
        have e2 : smallB n = false := by rw [E.out, decide_eq_false hl]; simp
        rw [e2]
        clear e2 E hl h0e
        go_enter Tryd.func14, Tryd.ntmps14
        go_wp2_with fail
        refine (HP.out _ h0 h1).mono ?_; rintro _ w1 ⟨v, rfl, hrow, x1⟩
        obtain ⟨a, cap, rfl⟩ := ownsRow_slice hrow
        clear hrow
        go_wp2_with fail
        go_ret
        exact ⟨rfl, (by repeat (first | exact Ext.refl _ | assumption | refine Ext.drew ?_ | refine Ext.drewN ?_ _ | refine Ext.alloc ?_ _ | refine Ext.trans ?_ (by assumption)))⟩
    · have b0 : (er == 0) = false := by simpa using h0e
      have e2 : smallB n = false := by rw [E.out, decide_eq_false h0e]; simp
      rw [e2]
      clear e2 E h0e
      go_enter Tryd.func14, Tryd.ntmps14
      go_wp2_with fail
      refine (HP.out _ h0 h1).mono ?_; rintro _ w1 ⟨v, rfl, hrow, x1⟩
      obtain ⟨a, cap, rfl⟩ := ownsRow_slice hrow
      clear hrow
      go_wp2_with fail
      go_ret
      exact ⟨rfl, (by repeat (first | exact Ext.refl _ | assumption | refine Ext.drew ?_ | refine Ext.drewN ?_ _ | refine Ext.alloc ?_ _ | refine Ext.trans ?_ (by assumption)))⟩

set_option maxRecDepth 100000 in
set_option maxHeartbeats 1000000 in
theorem Build_none (p : Int) (ps : List (Int × Int)) (w : World) (hp0 : 3 ≤ p) (hp1 : p ≤ 9223372036854775807) (hd : partsD (p - 1) = (ps, 0)) (hq : primeB p = false) (hT : Tab w) :
    Calls Tryd.prog 5 #[.int .u64 p] w (Ret (.tuple #[.slice none 0 0, .int .i64 6]) w) := by
  have hmm := @run_makeMap Tryd.prog
  have hpr : rightB p = true := rightB_mk ⟨by omega, hp1⟩
  have HPN := hid (fun w0 (ht : Tab w0) => proof_none p ps w0 hp0 hp1 hd hq ht)
  have HT := hid hT; have HR := hid hpr
  have b2 : (p == 2) = false := by simp; omega
  have hkey := hid (u64_keyOf (n := p) (by omega) (by omega))
  have hown := hid ((World.ownsMap_made w Tryd.prog 22 rawElem).alloc (.cells #[.int .u64 p] 22))
  clear hT hpr hd hq
  go_enter Tryd.func5, Tryd.ntmps5
  go_wp2_with fail
  refine (right_any _ _ (by omega) (by omega)).mono ?_; rintro _ w1 ⟨rfl, h1⟩
  rw [HR.out]
  subst h1
  go_wp2_with fail
  refine wp_loop_rounds 1 ?_
  rw [rounds_succ]
  go_wp2_with (first | (at_lookup; refine wpList_lookup_raw _ rfl _ _ 43 rfl 22 34 u64_key Tryd.underlying43 (proof_zero _) w.heap.size _ _ rfl hown.out _ _ rfl hkey.out _ rfl ?_) | fail)
  refine (HPN.out _ (HT.out.ext (by repeat (first | exact Ext.refl _ | assumption | refine Ext.drew ?_ | refine Ext.drewN ?_ _ | refine Ext.alloc ?_ _ | refine Ext.trans ?_ (by assumption))))).mono ?_; rintro _ w2 ⟨rfl, x2⟩
  go_wp2_with fail
  (try simp only [Exit.inBlock, Exit.then])
  refine bodyPost_ret (results_tmp2 rfl _ _ _) rfl ?_
  exact ⟨rfl, (by repeat (first | exact Ext.refl _ | assumption | refine Ext.drew ?_ | refine Ext.drewN ?_ _ | refine Ext.alloc ?_ _ | refine Ext.trans ?_ (by assumption)))⟩
end Go.Proofs.YthomeenmcajmdaaDoor
/- What trial division finds: primes whose product is the number. -/
namespace Go.Proofs.YthomeenmcajmdaaDoor
open Go.RowKit Go.Maps

/-- divided by each part in turn -/
def steps : List (Int × Int) → Int → Option Int
  | [], n => some n
  | (q, t) :: ps, n => match divs q t.toNat n with
    | none => none
    | some m => steps ps m
/-- parts rise above last, each at least once -/
def rises : Int → List (Int × Int) → Prop
  | _, [] => True
  | last, (q, t) :: ps => last < q ∧ 1 ≤ t ∧ rises q ps
theorem upB_steps : ∀ {ps : List (Int × Int)} {last n : Int}, rises last ps → steps ps n = some 1 → upB last ps n = true
  | [], last, n, _, h => by simp [steps] at h; simp [upB, h]
  | (q, t) :: ps, last, n, hr, h => by
    obtain ⟨h1, h2, h3⟩ := hr
    rw [upB, if_neg (by omega)]
    rw [steps] at h
    cases e : divs q t.toNat n with
    | none => rw [e] at h; cases h
    | some m =>
      rw [e] at h
      exact upB_steps h3 h
theorem rises_low : ∀ {ps : List (Int × Int)} {a b : Int}, rises b ps → a ≤ b → rises a ps
  | [], _, _, _, _ => trivial
  | (q, t) :: ps, a, b, h, hab => ⟨by have := h.1; omega, h.2.1, h.2.2⟩
theorem rises_snoc : ∀ {ps : List (Int × Int)} {a q t : Int}, rises a ps → (∀ x ∈ ps, x.1 < q) → a < q → 1 ≤ t → rises a (ps ++ [(q, t)])
  | [], a, q, t, _, _, h2, h3 => ⟨h2, h3, trivial⟩
  | (p, s) :: ps, a, q, t, h, h1, h2, h3 => ⟨h.1, h.2.1, rises_snoc h.2.2 (fun x hx => h1 x (by simp [hx])) (h1 (p, s) (by simp)) h3⟩
theorem steps_snoc : ∀ {ps : List (Int × Int)} {n m q t k : Int}, steps ps n = some m → divs q t.toNat m = some k → steps (ps ++ [(q, t)]) n = some k
  | [], n, m, q, t, k, h, hd => by simp [steps] at h; subst h; simp [steps, hd]
  | (p, s) :: ps, n, m, q, t, k, h, hd => by
    rw [steps] at h
    cases e : divs p s.toNat n with
    | none => rw [e] at h; cases h
    | some x =>
      rw [e] at h
      simp only [List.cons_append, steps, e]
      exact steps_snoc h hd

theorem strip_spec {d : Int} (hd : 2 ≤ d) : ∀ (f : Nat) (n : Int), 1 ≤ n → n < 2 ^ f →
    divs d (stripT d f n).toNat n = some (stripN d f n) ∧ stripN d f n % d ≠ 0 ∧ (∃ k, 1 ≤ k ∧ n = k * stripN d f n)
  | 0, n, h1, h2 => by simp at h2; omega
  | f + 1, n, h1, h2 => by
    by_cases hz : n % d = 0
    · have hh := strip_half (t := 0) (m := n) hd h1 hz (by simp)
      have hb : n / d < 2 ^ f := by
        have : n / d * 2 ^ (0 + 1) ≤ n := hh.1
        rw [Int.pow_succ] at h2
        simp at this
        omega
      have ih := strip_spec hd f (n / d) hh.2.1 hb
      have hle := stripN_le hd f (n / d) hh.2.1
      rw [(strip_step hz).1, (strip_step hz).2]
      refine ⟨?_, ih.2.1, ?_⟩
      · rw [show (stripT d f (n / d) + 1).toNat = (stripT d f (n / d)).toNat + 1 by omega, divs, if_pos hz]
        exact ih.1
      · obtain ⟨k, hk, e⟩ := ih.2.2
        refine ⟨d * k, ?_, ?_⟩
        · have := Int.mul_le_mul hd hk (by omega) (by omega); omega
        · rw [Int.mul_assoc, ← e]; exact (Int.mul_ediv_cancel' (Int.dvd_of_emod_eq_zero hz)).symm
    · rw [(strip_zero _ hz).1, (strip_zero _ hz).2]
      exact ⟨rfl, hz, 1, by omega, by omega⟩

theorem not_div_of {n k m c : Int} (e : n = k * m) (h : n % c ≠ 0) : m % c ≠ 0 := fun hz => by
  obtain ⟨x, hx⟩ := Int.dvd_of_emod_eq_zero hz
  apply h
  rw [e, hx, Int.mul_left_comm]
  exact Int.mul_emod_right c (k * x)
theorem partsF_spec : ∀ (f : Nat) (d n : Int), 2 ≤ d → d + f ≤ 65537 → 1 ≤ n → n < 18446744073709551616 → (∀ c, 2 ≤ c → c < d → n % c ≠ 0) →
    steps (partsF f d n).1 n = some (partsF f d n).2 ∧ rises (d - 1) (partsF f d n).1 ∧ (∀ q ∈ (partsF f d n).1, IsP q.1) ∧
      (∀ q ∈ (partsF f d n).1, 1 < (partsF f d n).2 → q.1 < (partsF f d n).2) ∧ (d + f = 65537 → 1 < (partsF f d n).2 → (partsF f d n).2 < 4294967296 → IsP (partsF f d n).2) ∧ (∀ c, 2 ≤ c → c < d → (partsF f d n).2 % c ≠ 0)
  | 0, d, n, hd, hf, h1, h2, hc => by
    simp only [partsF]
    refine ⟨rfl, trivial, by simp, by simp, fun he hn hn2 => ⟨by omega, fun c h3 h4 => ?_⟩, hc⟩
    rcases Int.lt_or_le c d with h5 | h5
    · exact hc c h3 h5
    · have h6 : 65537 ≤ c := by omega
      have := Int.mul_le_mul h6 h6 (by omega) (by omega)
      omega
  | f + 1, d, n, hd, hf, h1, h2, hc => by
    by_cases hle : d * d ≤ n
    · have hs := strip_spec hd 64 n h1 (Int.lt_of_lt_of_le h2 (by decide))
      have hn := stripN_le hd 64 n h1
      obtain ⟨k, hk, ek⟩ := hs.2.2
      have hc2 : ∀ c, 2 ≤ c → c < d + 1 → stripN d 64 n % c ≠ 0 := fun c h3 h4 => by
        rcases Int.lt_or_le c d with h5 | h5
        · exact not_div_of ek (hc c h3 h5)
        · obtain rfl : c = d := by omega
          exact hs.2.1
      have ih := partsF_spec f (d + 1) (stripN d 64 n) (by omega) (by omega) hn.1 (by omega) hc2
      have hr := partsF_ok f (d + 1) (stripN d 64 n) (by omega) (by omega) hn.1
      rw [partsF, if_pos hle]
      simp only
      by_cases ht : 0 < stripT d 64 n
      · rw [if_pos ht]
        have hz : n % d = 0 := by
          apply Classical.byContradiction
          intro hz
          rw [(strip_zero 64 hz).1] at ht
          omega
        refine ⟨?_, ⟨by omega, by omega, rises_low ih.2.1 (by omega)⟩, fun q hq => ?_, fun q hq h5 => ?_, fun he => ih.2.2.2.2.1 (by omega), fun c h3 h4 => ih.2.2.2.2.2 c h3 (by omega)⟩
        · rw [steps, hs.1]; exact ih.1
        · rcases List.mem_cons.1 hq with rfl | hq
          · refine ⟨hd, fun c h3 h4 hz2 => ?_⟩
            simp only at h4 hz2
            have h5 : c < d := by
              rcases Int.lt_or_le c d with h6 | h6
              · exact h6
              · have := Int.mul_le_mul h6 h3 (by omega) (by omega); omega
            exact hc c h3 h5 (Int.emod_eq_zero_of_dvd (Int.dvd_trans (Int.dvd_of_emod_eq_zero hz2) (Int.dvd_of_emod_eq_zero hz)))
          · exact ih.2.2.1 q hq
        · rcases List.mem_cons.1 hq with rfl | hq
          · simp only
            apply Classical.byContradiction
            intro h6
            exact ih.2.2.2.2.2 (partsF f (d + 1) (stripN d 64 n)).2 (by omega) (by omega) Int.emod_self
          · exact ih.2.2.2.1 q hq h5
      · rw [if_neg ht]
        exact ⟨by
          have h0 : stripT d 64 n = 0 := by omega
          have := hs.1
          rw [h0] at this
          simp [divs] at this
          rw [← this] at ih ⊢
          exact ih.1, rises_low ih.2.1 (by omega), ih.2.2.1, ih.2.2.2.1, fun he => ih.2.2.2.2.1 (by omega), fun c h3 h4 => ih.2.2.2.2.2 c h3 (by omega)⟩
    · rw [partsF, if_neg hle]
      refine ⟨rfl, trivial, by simp, by simp, fun _ hn hn2 => ⟨by omega, fun c h3 h4 => ?_⟩, hc⟩
      rcases Int.lt_or_le c d with h5 | h5
      · exact hc c h3 h5
      · have := Int.mul_le_mul h5 h5 (by omega) (by omega)
        omega

/-- what Parts tells without an error: rising primes, whose product is the number -/
theorem partsD_full {n : Int} (he : (partsD n).2 = 0) : 1 ≤ n ∧ n < 9223372036854775808 ∧ steps (partsD n).1 n = some 1 ∧ rises 1 (partsD n).1 ∧ ∀ q ∈ (partsD n).1, IsP q.1 := by
  unfold partsD at he ⊢
  by_cases h : n ≤ 0 ∨ 9223372036854775808 ≤ n
  · rw [if_pos h] at he; simp at he
  · rw [if_neg h] at he ⊢
    have hs := partsF_spec 65535 2 n (by omega) (by omega) (by omega) (by omega) (fun c h1 h2 => by omega)
    have hr := partsF_ok 65535 2 n (by omega) (by omega) (by omega)
    simp only at he ⊢
    refine ⟨by omega, by omega, ?_⟩
    by_cases hb : 4294967296 ≤ (partsF 65535 2 n).2
    · rw [if_pos hb] at he; simp at he
    · rw [if_neg hb] at he ⊢
      by_cases h1 : 1 < (partsF 65535 2 n).2
      · rw [if_pos h1]
        refine ⟨steps_snoc hs.1 ?_, rises_snoc hs.2.1 (fun x hx => hs.2.2.2.1 x hx h1) (by omega) (by omega), fun q hq => ?_⟩
        · show divs _ (1 : Int).toNat _ = some 1
          rw [show (1 : Int).toNat = 1 by rfl, divs, if_pos Int.emod_self, divs, Int.ediv_self (by omega)]
        · rcases List.mem_append.1 hq with hq | hq
          · exact hs.2.2.1 q hq
          · simp at hq
            subst hq
            exact hs.2.2.2.2.1 (by omega) h1 (by omega)
      · rw [if_neg h1]
        refine ⟨?_, hs.2.1, hs.2.2.1⟩
        rw [hs.1]
        congr 1
        omega
theorem partsF_none : ∀ (f : Nat) (d n : Int), 2 ≤ d → 1 ≤ n → (∀ c, d ≤ c → c * c ≤ n → n % c ≠ 0) → partsF f d n = ([], n)
  | 0, d, n, _, _, _ => rfl
  | f + 1, d, n, hd, hn, hc => by
    rw [partsF]
    by_cases hle : d * d ≤ n
    · have hz := strip_zero 64 (hc d (Int.le_refl d) hle)
      rw [if_pos hle, hz.1, hz.2, if_neg (by omega), partsF_none f (d + 1) n (by omega) hn (fun c h1 h2 => hc c (by omega) h2)]
    · rw [if_neg hle]
theorem partsD_prime {n : Int} (h : IsP n) (hn : n < 4294967296) : partsD n = ([(n, 1)], 0) := by
  have h2 := h.1
  unfold partsD
  rw [if_neg (by omega), partsF_none 65535 2 n (by omega) (by omega) (fun c h1 h3 => h.2 c h1 h3)]
  simp only
  rw [if_neg (by omega), if_pos (by omega)]
  rfl
theorem small_is {n : Int} (h0 : 0 ≤ n) (hn : n < 4294967296) : smallB n = isB n := by
  rw [Bool.eq_iff_iff, isB_iff]
  constructor
  · intro h
    rw [smallB, if_neg (by omega)] at h
    simp only [Bool.and_eq_true, decide_eq_true_eq] at h
    obtain ⟨⟨h1, h2⟩, h3⟩ := h
    obtain ⟨_, _, h4, _, h5⟩ := partsD_full h1
    generalize (partsD n).1 = ps at *
    match ps, h2 with
    | [(q, t)], _ =>
      simp at h3
      subst h3
      have hq := h5 (q, 1) (by simp)
      simp only [steps, show (1 : Int).toNat = 1 by rfl, divs] at h4
      by_cases hz : n % q = 0
      · rw [if_pos hz] at h4
        simp at h4
        have e := Int.mul_ediv_cancel' (Int.dvd_of_emod_eq_zero hz)
        rw [h4, Int.mul_one] at e
        rw [← e]; exact hq
      · rw [if_neg hz] at h4; cases h4
  · intro h
    rw [smallB, if_neg (by omega), partsD_prime h hn]
    simp
end Go.Proofs.YthomeenmcajmdaaDoor
/- The test of primes, powers and roots over Nat: what the walks answer is what is computed. What Build tells of 0 and 1. -/
namespace Go.Proofs.YthomeenmcajmdaaDoor
open Go.RowKit Go.Maps

theorem powv_C (n a t : Nat) (hn : n ≤ 9223372036854775807) : powv n a t = (powC n a t : Int) := by
  unfold powv powC
  by_cases h : 2 ≤ n ∧ a < n
  · rw [if_pos (hasB_iff.2 ⟨⟨by omega, by omega⟩, by omega⟩), if_pos h, mpow_nat]
  · rw [if_neg (fun hh => h (by have := hasB_iff.1 hh; omega)), if_neg h]; rfl
def rootC (n r : Nat) (ps : List (Int × Int)) : Bool := Nat.beq (powC n r (n - 1)) 1 && ps.all fun q => !Nat.beq (powC n r ((n - 1) / q.1.toNat)) 1
theorem rootB_C (n r : Nat) (ps : List (Int × Int)) (hn : 1 ≤ n) (hn2 : n ≤ 9223372036854775807) (hp : ∀ q ∈ ps, 0 ≤ q.1) : rootB n r ps = rootC n r ps := by
  have e1 : (n : Int) - 1 = ((n - 1 : Nat) : Int) := by omega
  have h1 : decide (powv n r ((n : Int) - 1) = 1) = Nat.beq (powC n r (n - 1)) 1 := by
    rw [e1, powv_C _ _ _ hn2, Bool.eq_iff_iff, decide_eq_true_eq, Nat.beq_eq]; omega
  unfold rootB rootC
  rw [h1]
  congr 1
  rw [Bool.eq_iff_iff, List.all_eq_true, List.all_eq_true]
  have h2 : ∀ q ∈ ps, decide (powv n r (((n : Int) - 1) / q.1) ≠ 1) = !Nat.beq (powC n r ((n - 1) / q.1.toNat)) 1 := by
    intro q hq
    obtain ⟨Q, hQ⟩ : ∃ Q : Nat, q.1 = Q := ⟨q.1.toNat, by have := hp q hq; omega⟩
    rw [hQ, Int.toNat_natCast, e1, ← Int.natCast_ediv, powv_C _ _ _ hn2, Bool.eq_iff_iff, decide_eq_true_eq, Bool.not_eq_true', ← Bool.not_eq_true, Nat.beq_eq]; omega
  constructor
  · intro h q hq; rw [← h2 q hq]; exact h q hq
  · intro h q hq; rw [h2 q hq]; exact h q hq
theorem stLoop_C (n : Nat) (hn : 1 ≤ n) (hn2 : n ≤ 9223372036854775807) : ∀ (t x : Nat), stLoop n t x = stLoopC n t x
  | 0, x => rfl
  | t + 1, x => by
    rw [stLoop, stLoopC, show ((2 : Int)) = ((2 : Nat) : Int) from rfl, powv_C _ _ _ hn2, stLoop_C n hn hn2 t]
    by_cases h : x = n - 1
    · rw [if_pos (by omega), show Nat.beq x (n - 1) = true by rw [Nat.beq_eq]; exact h, Bool.true_or]
    · rw [if_neg (by omega), show Nat.beq x (n - 1) = false by rw [← Bool.not_eq_true, Nat.beq_eq]; exact h, Bool.false_or]
theorem standsB_C (n b : Nat) (hn : 1 ≤ n) (hn2 : n ≤ 9223372036854775807) : standsB n b = standsC n b := by
  unfold standsB standsC
  have e1 : (n : Int) - 1 = ((n - 1 : Nat) : Int) := by omega
  have e2 : ((n - 1 : Nat) : Int) / 2 ^ Lib.ctz 64 (n - 1) = (((n - 1) / 2 ^ Lib.ctz 64 (n - 1) : Nat) : Int) := by
    rw [Int.natCast_ediv]; congr 1
  rw [e1, Int.toNat_natCast, e2, ← Int.natCast_emod, powv_C _ _ _ hn2, stLoop_C n hn hn2]
  congr 1
  rw [Bool.eq_iff_iff, decide_eq_true_eq, Nat.beq_eq]; omega
theorem primeL_C (n : Nat) (hn : 1 ≤ n) (hn2 : n ≤ 9223372036854775807) : ∀ bs : List Nat, primeL n (bs.map fun b : Nat => (b : Int)) = primeCL n bs
  | [] => rfl
  | b :: bs => by
    rw [List.map_cons, primeL, primeCL, primeL_C n hn hn2 bs, standsB_C n b hn hn2]
    by_cases h : n % b = 0
    · rw [if_pos (by omega), if_pos (by rw [Nat.beq_eq]; exact h), Bool.eq_iff_iff, decide_eq_true_eq, Nat.beq_eq]; omega
    · rw [if_neg (by omega), show Nat.beq (n % b) 0 = false by rw [← Bool.not_eq_true, Nat.beq_eq]; exact h, if_neg Bool.false_ne_true]
      cases standsC n b <;> simp
theorem primeB_C (n : Nat) (hn : 1 ≤ n) (hn2 : n ≤ 9223372036854775807) : primeB n = primeC n := by
  rw [primeB, primeC, ← primeL_C n hn hn2]; rfl

def findR (n : Nat) (ps : List (Int × Int)) : Nat → Nat → Nat
  | 0, j => j
  | f + 1, j => if rootC n j ps then j else findR n ps f (j + 1)
theorem findR_le (n : Nat) (ps : List (Int × Int)) : ∀ f j, j ≤ findR n ps f j ∧ findR n ps f j ≤ j + f
  | 0, j => by simp [findR]
  | f + 1, j => by
    rw [findR]
    split
    · omega
    · have := findR_le n ps f (j + 1); omega
theorem findR_least (n : Nat) (ps : List (Int × Int)) : ∀ f j i, j ≤ i → i < findR n ps f j → rootC n i ps = false
  | 0, j, i, h1, h2 => by simp [findR] at h2; omega
  | f + 1, j, i, h1, h2 => by
    rw [findR] at h2
    split at h2
    · omega
    · by_cases e : i = j
      · rw [e]; simpa using ‹¬rootC n j ps = true›
      · exact findR_least n ps f (j + 1) i (by omega) h2
theorem partsOf_pos (n : Int) : ∀ q ∈ partsOf n, 0 ≤ q.1 := fun q hq => by have := partsD_ok (n - 1) q hq; omega
theorem isP_prm {n : Int} (h : IsP n) : Prm n.natAbs := by
  have h2 := h.1
  refine ⟨by omega, fun d hd => ?_⟩
  apply Classical.byContradiction
  intro hc
  have hle := Nat.le_of_dvd (by omega) hd
  have h0 : d ≠ 0 := by rintro rfl; have := Nat.eq_zero_of_zero_dvd hd; omega
  obtain ⟨e, he⟩ := hd
  have he0 : e ≠ 0 := by rintro rfl; simp at he; omega
  have he1 : e ≠ 1 := by rintro rfl; simp at he; omega
  have hd1 : 2 ≤ d := by omega
  have hen : (n : Int) = (d : Int) * (e : Int) := by rw [← Int.natCast_mul, ← he]; omega
  rcases Nat.le_total d e with hde | hde
  · refine h.2 d (by omega) ?_ (by rw [hen]; exact Int.mul_emod_right _ _)
    rw [hen]; exact Int.mul_le_mul_of_nonneg_left (by omega) (by omega)
  · refine h.2 e (by omega) ?_ (by rw [hen]; exact Int.mul_emod_left _ _)
    rw [hen]; exact Int.mul_le_mul_of_nonneg_right (by omega) (by omega)
theorem partsD_small {n : Int} (h1 : 1 ≤ n) (h2 : n < 4294967296) : (partsD n).2 = 0 := by
  unfold partsD
  rw [if_neg (by omega)]
  have := partsF_ok 65535 2 n (by omega) (by omega) h1
  simp only
  rw [if_neg (by omega)]
  split <;> rfl
set_option maxHeartbeats 400000 in
theorem Build_low (p : Int) (w : World) (hp0 : 0 ≤ p) (hp1 : p < 2) : Calls Tryd.prog 5 #[.int .u64 p] w (Ret (.tuple #[.slice none 0 0, .int .i64 1]) w) := by
  have hr : rightB p = false := by
    cases e : rightB p with
    | false => rfl
    | true => have := rightB_true e; omega
  have HR := hid hr
  clear hr
  go_enter Tryd.func5, Tryd.ntmps5
  go_wp2_with fail
  refine (right_any _ _ (by omega) (by omega)).mono ?_; rintro _ w1 ⟨rfl, h1⟩
  rw [HR.out]
  subst h1
  go_wp2_with fail
  go_ret2
  exact ⟨rfl, (by repeat (first | exact Ext.refl _ | assumption | refine Ext.drew ?_ | refine Ext.drewN ?_ _ | refine Ext.alloc ?_ _ | refine Ext.trans ?_ (by assumption)))⟩
theorem good_nil {g : Int → Int} : Good [] g := by refine ⟨?_, ?_, ?_, ?_, ?_, ?_, ?_, ?_⟩ <;> (intro n hn; simp at hn)
theorem last_of {ss : List Int} {p : Int} (hs : ss.Pairwise (· < ·)) (hp : p ∈ ss) (hle : ∀ n ∈ ss, n ≤ p) : ∃ m, ss.length = m + 1 ∧ ss.getD m 0 = p := by
  obtain ⟨i, hi, e⟩ := List.mem_iff_getElem.1 hp
  refine ⟨ss.length - 1, by omega, ?_⟩
  by_cases h : i = ss.length - 1
  · rw [← h]; simp [List.getD, List.getElem?_eq_getElem hi, e]
  · have h1 := List.pairwise_iff_getElem.1 hs i (ss.length - 1) hi (by omega) (by omega)
    have h2 := hle _ (List.getElem_mem (show ss.length - 1 < ss.length by omega))
    omega
end Go.Proofs.YthomeenmcajmdaaDoor
/- Which numbers Build's list of a prime below 2^24 holds: no more than 24, each with its least root. -/
namespace Go.Proofs.YthomeenmcajmdaaDoor
open Go.RowKit Go.Maps

theorem ipow_pos {q : Int} (h : 1 ≤ q) : ∀ k : Nat, 1 ≤ q ^ k
  | 0 => by simp
  | k + 1 => by
    rw [Int.pow_succ]
    have := Int.mul_le_mul (ipow_pos h k) h (by omega) (by have := ipow_pos h k; omega)
    omega
theorem pos_of_mul {a b : Int} (ha : 1 ≤ a) (h : 1 ≤ a * b) : 1 ≤ b := by
  apply Classical.byContradiction
  intro hb
  have := Int.mul_le_mul_of_nonneg_left (show b ≤ 0 by omega) (show 0 ≤ a by omega)
  rw [Int.mul_zero] at this
  omega
/-- one part taken out -/
theorem steps_cons {q t n : Int} {ps : List (Int × Int)} (h : steps ((q, t) :: ps) n = some 1) (hn : 1 ≤ n) (hq : 2 ≤ q) (ht : 1 ≤ t) : ∃ m, steps ps m = some 1 ∧ 1 ≤ m ∧ q * m ≤ n ∧ q ∣ n := by
  rw [steps] at h
  cases e : divs q t.toNat n with
  | none => rw [e] at h; cases h
  | some m =>
    rw [e] at h
    have em := divs_mul e
    obtain ⟨k, hk⟩ : ∃ k, t.toNat = k + 1 := ⟨t.toNat - 1, by omega⟩
    rw [hk, Int.pow_succ] at em
    have hp := ipow_pos (show 1 ≤ q by omega) k
    have hqk : 1 ≤ q ^ k * q := by have := Int.mul_le_mul hp (show 1 ≤ q by omega) (by omega) (by omega); omega
    have hm : 1 ≤ m := pos_of_mul hqk (by rw [← em]; exact hn)
    refine ⟨m, h, hm, ?_, ⟨q ^ k * m, by rw [em]; ac_rfl⟩⟩
    have h1 : 1 * (q * m) ≤ q ^ k * (q * m) := Int.mul_le_mul_of_nonneg_right hp (Int.mul_nonneg (by omega) (by omega))
    rw [em, Int.mul_assoc]
    omega
theorem steps_weigh (g : Int → Nat) : ∀ (ps : List (Int × Int)) (n : Int), steps ps n = some 1 → 1 ≤ n → (∀ q ∈ ps, 2 ≤ q.1 ∧ 1 ≤ q.2 ∧ (g q.1 : Int) ≤ q.1) → (prodL (ps.map fun q => g q.1) : Int) ≤ n
  | [], n, _, hn, _ => by simp [prodL]; omega
  | (q, t) :: ps, n, h, hn, hg => by
    obtain ⟨h1, h2, h3⟩ := hg (q, t) (by simp)
    obtain ⟨m, e1, e2, e3, _⟩ := steps_cons h hn h1 h2
    have ih := steps_weigh g ps m e1 e2 (fun x hx => hg x (by simp [hx]))
    simp only [List.map_cons, prodL, Int.natCast_mul]
    exact Int.le_trans (Int.mul_le_mul h3 ih (Int.natCast_nonneg _) (show 0 ≤ q by have : 2 ≤ q := h1; omega)) e3
theorem steps_mem : ∀ (ps : List (Int × Int)) (n : Int), steps ps n = some 1 → 1 ≤ n → (∀ q ∈ ps, 2 ≤ q.1 ∧ 1 ≤ q.2) → ∀ q ∈ ps, q.1 ≤ n
  | [], n, _, hn, _, q, hq => by simp at hq
  | (q, t) :: ps, n, h, hn, hg, x, hx => by
    obtain ⟨h1, h2⟩ := hg (q, t) (by simp)
    obtain ⟨m, e1, e2, e3, _⟩ := steps_cons h hn h1 h2
    simp only at h1
    rcases List.mem_cons.1 hx with rfl | hx
    · simp only
      have := Int.mul_le_mul_of_nonneg_left e2 (show 0 ≤ q by omega)
      omega
    · have := steps_mem ps m e1 e2 (fun y hy => hg y (by simp [hy])) x hx
      have := Int.mul_le_mul_of_nonneg_right (show 1 ≤ q by omega) (show 0 ≤ m by omega)
      omega
theorem rises_all : ∀ {ps : List (Int × Int)} {a : Int}, rises a ps → ∀ q ∈ ps, a < q.1 ∧ 1 ≤ q.2
  | [], a, _, q, hq => by simp at hq
  | (p, s) :: ps, a, h, q, hq => by
    rcases List.mem_cons.1 hq with rfl | hq
    · exact ⟨h.1, h.2.1⟩
    · have := rises_all h.2.2 q hq
      have := h.1
      omega
theorem isP_odd {p : Int} (h : IsP p) (h3 : 3 ≤ p) : (p - 1) % 2 = 0 := by
  by_cases h4 : p = 3
  · subst h4; rfl
  · have := h.2 2 (by omega) (by omega)
    omega
/-- the parts of an even number: 2 first -/
theorem head2 {n : Int} (h1 : 1 ≤ n) (h2 : n % 2 = 0) (h3 : n < 4294967296) :
    ∃ t m rest, (partsD n).1 = (2, t) :: rest ∧ steps rest m = some 1 ∧ 1 ≤ m ∧ 2 * m ≤ n ∧ ∀ q ∈ rest, 3 ≤ q.1 ∧ 1 ≤ q.2 ∧ IsP q.1 := by
  obtain ⟨_, _, hs, hr, hp⟩ := partsD_full (partsD_small h1 h3)
  have hprm : Prm 2 := prm_small (by omega) (by omega)
  obtain ⟨q, hq, hd⟩ := upB_part hprm (upB_steps hr hs) (Int.dvd_of_emod_eq_zero h2)
  have hq2 : q.1 = 2 := by
    have := prm_eq (isP_prm (hp q hq)) hprm hd
    have := (hp q hq).1
    omega
  generalize (partsD n).1 = ps at *
  match ps with
  | [] => simp at hq
  | (a, t) :: rest =>
    obtain ⟨r1, r2, r3⟩ := hr
    have hra := rises_all r3
    have ha : a = 2 := by
      rcases List.mem_cons.1 hq with rfl | hq
      · exact hq2
      · have := hra q hq; omega
    subst ha
    obtain ⟨m, e1, e2, e3, _⟩ := steps_cons hs h1 (by omega) r2
    exact ⟨t, m, rest, rfl, e1, e2, e3, fun x hx => ⟨by have := hra x hx; omega, (hra x hx).2, hp x (by simp [hx])⟩⟩
theorem prodL_const (b : Nat) {α : Type} : ∀ l : List α, prodL (l.map fun _ => b) = b ^ l.length
  | [] => rfl
  | x :: l => by rw [List.map_cons, prodL, prodL_const b l, List.length_cons, Nat.pow_succ, Nat.mul_comm]
theorem parts_few {n : Int} (h1 : 1 ≤ n) (h2 : n % 2 = 0) (h3 : n < 16777216) : (partsD n).1.length ≤ 16 := by
  obtain ⟨t, m, rest, e, hs, hm, hle, hr⟩ := head2 h1 h2 (by omega)
  have := steps_weigh (fun _ => 3) rest m hs hm (fun q hq => ⟨by have := (hr q hq).1; omega, (hr q hq).2.1, by have := (hr q hq).1; simpa using this⟩)
  rw [prodL_const] at this
  rw [e, List.length_cons]
  apply Classical.byContradiction
  intro hc
  have h4 := Nat.pow_le_pow_right (show 0 < 3 by omega) (show 16 ≤ rest.length by omega)
  have h5 : 3 ^ 16 = 43046721 := by decide
  omega

/-- a prime, and what its parts lead to -/
def clo : Nat → Nat → List Int
  | 0, _ => []
  | f + 1, p => (p : Int) :: (partsOf p).flatMap fun q => if Nat.beq q.1.toNat 2 then [] else clo f q.1.toNat
theorem flat_pow {α : Type} (F : α → List Int) : ∀ l : List α, 2 ^ (l.flatMap F).length = prodL (l.map fun x => 2 ^ (F x).length)
  | [] => rfl
  | x :: l => by rw [List.flatMap_cons, List.length_append, Nat.pow_add, flat_pow F l, List.map_cons, prodL]
theorem flat_congr {α β : Type} {F G : α → List β} : ∀ {l : List α}, (∀ x ∈ l, F x = G x) → l.flatMap F = l.flatMap G
  | [], _ => rfl
  | x :: l, h => by rw [List.flatMap_cons, List.flatMap_cons, h x (by simp), flat_congr fun y hy => h y (by simp [hy])]
theorem clo_ok : ∀ (f p : Nat), IsP (p : Int) → 3 ≤ p → p < 2 ^ f → p < 16777216 →
    (∀ n ∈ clo f p, IsP n ∧ 3 ≤ n ∧ n ≤ p) ∧ (∀ n ∈ clo f p, ∀ q ∈ partsOf n, q.1 = 2 ∨ q.1 ∈ clo f p) ∧ 2 ^ (clo f p).length ≤ p - 1 ∧ (p : Int) ∈ clo f p
  | 0, p, _, h3, h, _ => by simp at h; omega
  | f + 1, p, hP, h3, hf, hlt => by
    obtain ⟨t, m, rest, e, hs, hm, hle, hr⟩ := head2 (n := (p : Int) - 1) (by omega) (isP_odd hP (by omega)) (by omega)
    have epo : partsOf (p : Int) = (2, t) :: rest := e
    have ec : clo (f + 1) p = (p : Int) :: rest.flatMap fun q => clo f q.1.toNat := by
      rw [clo, epo, List.flatMap_cons]
      have : Nat.beq ((2, t) : Int × Int).1.toNat 2 = true := rfl
      rw [this, if_pos rfl, List.nil_append]
      congr 1
      refine flat_congr fun q hq => ?_
      have hq3 := (hr q hq).1
      rw [show Nat.beq q.1.toNat 2 = false by rw [← Bool.not_eq_true, Nat.beq_eq]; omega, if_neg Bool.false_ne_true]
    have hle2 := steps_mem rest m hs hm (fun q hq => ⟨by have := (hr q hq).1; omega, (hr q hq).2.1⟩)
    have hpow : p < 2 ^ f * 2 := by rw [← Nat.pow_succ]; exact hf
    have ih : ∀ q ∈ rest, (∀ n ∈ clo f q.1.toNat, IsP n ∧ 3 ≤ n ∧ n ≤ (q.1.toNat : Nat)) ∧ (∀ n ∈ clo f q.1.toNat, ∀ x ∈ partsOf n, x.1 = 2 ∨ x.1 ∈ clo f q.1.toNat) ∧ 2 ^ (clo f q.1.toNat).length ≤ q.1.toNat - 1 ∧ ((q.1.toNat : Nat) : Int) ∈ clo f q.1.toNat := by
      intro q hq
      obtain ⟨a1, a2, a3⟩ := hr q hq
      have a4 := hle2 q hq
      have e1 : ((q.1.toNat : Nat) : Int) = q.1 := by omega
      exact clo_ok f q.1.toNat (by rw [e1]; exact a3) (by omega) (by omega) (by omega)
    have hin : ∀ q ∈ rest, ∀ n ∈ clo f q.1.toNat, n ∈ clo (f + 1) p := fun q hq n hn => by
      rw [ec]; exact List.mem_cons_of_mem _ (List.mem_flatMap.2 ⟨q, hq, hn⟩)
    refine ⟨fun n hn => ?_, fun n hn x hx => ?_, ?_, by rw [ec]; simp⟩
    · rw [ec] at hn
      rcases List.mem_cons.1 hn with rfl | hn
      · exact ⟨hP, by omega, by omega⟩
      · obtain ⟨q, hq, hn⟩ := List.mem_flatMap.1 hn
        obtain ⟨b1, b2, b3⟩ := (ih q hq).1 n hn
        have := hle2 q hq
        have := (hr q hq).1
        exact ⟨b1, b2, by omega⟩
    · rw [ec] at hn
      rcases List.mem_cons.1 hn with rfl | hn
      · rw [epo] at hx
        rcases List.mem_cons.1 hx with rfl | hx
        · exact .inl rfl
        · right
          have e1 : ((x.1.toNat : Nat) : Int) = x.1 := by have := (hr x hx).1; omega
          have := hin x hx _ (ih x hx).2.2.2
          rwa [e1] at this
      · obtain ⟨q, hq, hn⟩ := List.mem_flatMap.1 hn
        rcases (ih q hq).2.1 n hn x hx with h | h
        · exact .inl h
        · exact .inr (hin q hq _ h)
    · rw [ec, List.length_cons, Nat.pow_succ, flat_pow]
      have := steps_weigh (fun x => 2 ^ (clo f x.toNat).length) rest m hs hm (fun q hq => by
        obtain ⟨a1, a2, a3⟩ := hr q hq
        have := (ih q hq).2.2.1
        refine ⟨by omega, a2, ?_⟩
        show ((2 ^ (clo f q.1.toNat).length : Nat) : Int) ≤ q.1
        omega)
      omega

/-- the least root of a prime -/
def genA (n : Int) : Int := (findR n.toNat (partsOf n) n.toNat 1 : Nat)
theorem findR_finds (n : Nat) (ps : List (Int × Int)) : ∀ f j r, j ≤ r → r < j + f → rootC n r ps = true → rootC n (findR n ps f j) ps = true ∧ findR n ps f j ≤ r
  | 0, j, r, h1, h2, _ => by omega
  | f + 1, j, r, h1, h2, h => by
    rw [findR]
    split
    · exact ⟨by assumption, h1⟩
    · have : r ≠ j := fun e => by subst e; exact absurd h (by assumption)
      exact findR_finds n ps f (j + 1) r (by omega) (by omega) h
theorem root_C {N r : Nat} (h : Root N r) (hr : r < N) {ps : List (Int × Int)} (hp : ∀ q ∈ ps, 2 ≤ q.1 ∧ q.1 ≤ N - 1) : rootC N r ps = true := by
  have hb := h.big
  have h1 : 1 % N = 1 := Nat.mod_eq_of_lt (by omega)
  rw [rootC, Bool.and_eq_true, List.all_eq_true]
  refine ⟨by rw [Nat.beq_eq, powC, if_pos ⟨by omega, hr⟩]; exact h.one, fun q hq => ?_⟩
  obtain ⟨a1, a2⟩ := hp q hq
  obtain ⟨Q, hQ⟩ : ∃ Q : Nat, q.1.toNat = Q := ⟨_, rfl⟩
  have h2 : 0 < (N - 1) / Q := Nat.div_pos (by omega) (by omega)
  have h3 : (N - 1) / Q < N - 1 := Nat.div_lt_self (by omega) (by omega)
  have := h.inj 0 ((N - 1) / Q) h2 h3
  rw [hQ, Bool.not_eq_true', ← Bool.not_eq_true, Nat.beq_eq, powC, if_pos ⟨by omega, hr⟩]
  intro he
  rw [Nat.pow_zero, h1, he] at this
  exact this rfl
theorem parts_le {n : Int} (h1 : 1 ≤ n) (h3 : n < 4294967296) : ∀ q ∈ (partsD n).1, 2 ≤ q.1 ∧ q.1 ≤ n := by
  obtain ⟨_, _, hs, hr, hp⟩ := partsD_full (partsD_small h1 h3)
  have h2 : ∀ q ∈ (partsD n).1, 2 ≤ q.1 ∧ 1 ≤ q.2 := fun q hq => by have := rises_all hr q hq; omega
  exact fun q hq => ⟨(h2 q hq).1, steps_mem _ n hs h1 h2 q hq⟩
theorem gen_root {N : Nat} (hP : IsP (N : Int)) (h3 : 3 ≤ N) (hlt : N < 16777216) : ∃ g : Nat, genA N = g ∧ 1 ≤ g ∧ g < N ∧ rootC N g (partsOf N) = true ∧ ∀ j : Nat, 1 ≤ j → j < g → rootC N j (partsOf N) = false := by
  have hp := isP_prm hP
  rw [Int.natAbs_natCast] at hp
  obtain ⟨r, r0, r1, hr⟩ := prm_root hp (by omega)
  have hpl := parts_le (n := (N : Int) - 1) (by omega) (by omega)
  have hf := findR_finds N (partsOf N) N 1 r (by omega) (by omega) (root_C hr r1 fun q hq => by have := hpl q hq; omega)
  have hle := (findR_le N (partsOf N) N 1).1
  refine ⟨findR N (partsOf N) N 1, by simp [genA], hle, by omega, hf.1, fun j h1 h2 => findR_least N (partsOf N) N 1 j h1 h2⟩
theorem clo_good {p : Nat} (hP : IsP (p : Int)) (h3 : 3 ≤ p) (hlt : p < 16777216) : Good (clo 24 p) genA := by
  obtain ⟨h1, h2, _, _⟩ := clo_ok 24 p hP h3 (by simpa using hlt) hlt
  refine ⟨fun n hn => ?_, fun n hn => ?_, fun n hn => ?_, fun n hn => ?_, fun n hn => ?_, fun n hn => ?_, fun n hn j hj1 hj2 => ?_, fun n hn q hq => h2 n hn q hq⟩
  all_goals obtain ⟨a1, a2, a3⟩ := h1 n hn
  all_goals obtain ⟨N, rfl⟩ : ∃ N : Nat, n = N := ⟨n.toNat, by omega⟩
  · omega
  · have := isP_prm a1
    rw [Int.natAbs_natCast] at this
    rw [primeB_C N (by omega) (by omega)]; exact primeC_ok this (by omega)
  · exact partsD_small (by omega) (by omega)
  · have := parts_few (n := (N : Int) - 1) (by omega) (isP_odd a1 a2) (by omega)
    show (partsD ((N : Int) - 1)).1.length ≤ 64
    omega
  · obtain ⟨g, e, g1, g2, _⟩ := gen_root a1 (by omega) (by omega)
    rw [e]; omega
  · obtain ⟨g, e, g1, g2, g3, _⟩ := gen_root a1 (by omega) (by omega)
    rw [e, rootB_C N _ _ (by omega) (by omega) (partsOf_pos _)]; exact g3
  · obtain ⟨g, e, g1, g2, g3, g4⟩ := gen_root a1 (by omega) (by omega)
    obtain ⟨J, rfl⟩ : ∃ J : Nat, j = J := ⟨j.toNat, by omega⟩
    rw [rootB_C N _ _ (by omega) (by omega) (partsOf_pos _)]
    exact g4 J (by omega) (by omega)
theorem clo_few {p : Nat} (hP : IsP (p : Int)) (h3 : 3 ≤ p) (hlt : p < 16777216) : (clo 24 p).length ≤ 24 := by
  obtain ⟨_, _, h, _⟩ := clo_ok 24 p hP h3 (by simpa using hlt) hlt
  apply Classical.byContradiction
  intro hc
  have h4 := Nat.pow_le_pow_right (show 0 < 2 by omega) (show 25 ≤ (clo 24 p).length by omega)
  have h5 : 2 ^ 25 = 33554432 := by decide
  omega
theorem clo_head {p : Nat} (hP : IsP (p : Int)) (h3 : 3 ≤ p) (hlt : p < 16777216) : (p : Int) ∈ clo 24 p := (clo_ok 24 p hP h3 (by simpa using hlt) hlt).2.2.2

/-- two lists that rise and have the same numbers are the same -/
theorem rise_eq : ∀ {a b : List Int}, a.Pairwise (· < ·) → b.Pairwise (· < ·) → (∀ x, x ∈ a ↔ x ∈ b) → a = b
  | [], [], _, _, _ => rfl
  | [], y :: b, _, _, h => by have := (h y).2 (by simp); simp at this
  | x :: a, [], _, _, h => by have := (h x).1 (by simp); simp at this
  | x :: a, y :: b, ha, hb, h => by
    rw [List.pairwise_cons] at ha hb
    have hxy : x = y := by
      rcases List.mem_cons.1 ((h x).1 (by simp)) with h1 | h1
      · exact h1
      · rcases List.mem_cons.1 ((h y).2 (by simp)) with h2 | h2
        · exact h2.symm
        · have := hb.1 x h1; have := ha.1 y h2; omega
    subst hxy
    congr 1
    refine rise_eq ha.2 hb.2 fun z => ⟨fun hz => ?_, fun hz => ?_⟩
    · rcases List.mem_cons.1 ((h z).1 (by simp [hz])) with h1 | h1
      · subst h1; have := ha.1 z hz; omega
      · exact h1
    · rcases List.mem_cons.1 ((h z).2 (by simp [hz])) with h1 | h1
      · subst h1; have := hb.1 z hz; omega
      · exact h1
open Classical in
/-- the numbers of Build's list -/
noncomputable def builtL (p : Int) : List Int := if h : ∃ ss : List Int, ss.Pairwise (· < ·) ∧ ∀ n, n ∈ ss ↔ p ≠ 2 ∧ Reach p n then Classical.choose h else []
theorem built_eq {p : Int} {ss : List Int} (h1 : ss.Pairwise (· < ·)) (h2 : ∀ n, n ∈ ss ↔ p ≠ 2 ∧ Reach p n) : ss = builtL p := by
  have h : ∃ ss : List Int, ss.Pairwise (· < ·) ∧ ∀ n, n ∈ ss ↔ p ≠ 2 ∧ Reach p n := ⟨ss, h1, h2⟩
  have hs := Classical.choose_spec h
  rw [builtL, dif_pos h]
  exact rise_eq h1 hs.1 fun x => (h2 x).trans (hs.2 x).symm
/-- what Build tells: the error, and the list -/
noncomputable def bErr (p : Int) : Int := if p < 2 then 1 else if isB p then 0 else 6
noncomputable def bList (p : Int) : List Prf := if bErr p = 0 then (builtL p).map (mkPrf genA) else []
theorem bList_no {p : Int} (h : bErr p ≠ 0) : bList p = [] := by rw [bList, if_neg h]
theorem isB_prm {p : Nat} (h2 : 2 ≤ p) (hlt : p < 16777216) : primeC p = isB (p : Int) := by
  rw [Bool.eq_iff_iff, isB_iff]
  exact ⟨fun h => root_isP (by omega) (by rw [Int.natAbs_natCast]; exact primeC_prm h2 hlt h), fun h => by
    have := isP_prm h
    rw [Int.natAbs_natCast] at this
    exact primeC_ok this (by omega)⟩
end Go.Proofs.YthomeenmcajmdaaDoor
/- What prime.Build tells of any number below 2^24: its error, and its list. -/
namespace Go.Proofs.YthomeenmcajmdaaDoor
open Go.RowKit Go.Maps

/-- what holds of the numbers of Build's list of a prime -/
structure BF (p : Int) : Prop where
  rise : (builtL p).Pairwise (· < ·)
  isP : IsP p
  two : p = 2 → builtL p = []
  big : p ≠ 2 → 3 ≤ p
  small : p < 16777216
  mem : ∀ n ∈ builtL p, n ∈ clo 24 p.toNat ∧ Reach p n
  top : p = 2 ∨ p ∈ builtL p
  down : ∀ n ∈ builtL p, ∀ q ∈ partsOf n, q.1 = 2 ∨ q.1 ∈ builtL p
theorem BF.all {p : Int} (h : BF p) {n : Int} (hn : n ∈ builtL p) : IsP n ∧ 3 ≤ n ∧ n ≤ p := by
  have h2 : p ≠ 2 := fun e => by rw [h.two e] at hn; simp at hn
  have h3 := h.big h2
  have hs := h.small
  have hc := (clo_ok 24 p.toNat (by rw [Int.toNat_of_nonneg (by omega)]; exact h.isP) (by omega) (by simpa using (show p.toNat < 16777216 by omega)) (by omega)).1 n (h.mem n hn).1
  exact ⟨hc.1, hc.2.1, by omega⟩
theorem BF.good {p : Int} (h : BF p) (h2 : p ≠ 2) : Good (clo 24 p.toNat) genA := by
  have h3 := h.big h2
  have hs := h.small
  exact clo_good (by rw [Int.toNat_of_nonneg (by omega)]; exact h.isP) (by omega) (by omega)
theorem BF.len {p : Int} (h : BF p) : (builtL p).length ≤ 24 := by
  by_cases h2 : p = 2
  · rw [h.two h2]; simp
  · have h3 := h.big h2
    have hs := h.small
    have := clo_few (p := p.toNat) (by rw [Int.toNat_of_nonneg (by omega)]; exact h.isP) (by omega) (by omega)
    have := nodup_le (builtL p) (clo 24 p.toNat) (h.rise.imp (by intro a b h; omega)) (fun n hn => (h.mem n hn).1)
    omega
/-- each number of it but p is a part of a greater one -/
theorem BF.need {p : Int} (h : BF p) {n : Int} (hn : n ∈ builtL p) : n = p ∨ ∃ m ∈ builtL p, n < m ∧ ∃ q ∈ partsOf m, q.1 = n := by
  have h2 : p ≠ 2 := fun e => by rw [h.two e] at hn; simp at hn
  have hp : p ∈ builtL p := h.top.resolve_left h2
  have key := (h.mem n hn).2 (fun x => x ∈ builtL p ∧ (x = p ∨ ∃ m ∈ builtL p, x < m ∧ ∃ q ∈ partsOf m, q.1 = x)) ⟨hp, .inl rfl⟩ (fun m q hm hq hq2 => by
    have hd := (h.down m hm.1 q hq).resolve_left hq2
    refine ⟨hd, .inr ⟨m, hm.1, ?_, q, hq, rfl⟩⟩
    have hm2 := h.all hm.1
    have hs := h.small
    have := parts_le (n := m - 1) (by omega) (by omega) q hq
    omega)
  exact key.2

set_option maxHeartbeats 1000000 in
theorem Build_at (p : Int) (w : World) (h0 : 0 ≤ p) (hlt : p < 16777216) (hT : Tab w) :
    Calls Tryd.prog 5 #[.int .u64 p] w fun e w' => ∃ v, Ret (.tuple #[v, .int .i64 (bErr p)]) w e w' ∧ Proofs w' v (bList p) ∧ (bErr p = 0 → BF p) := by
  by_cases h2 : p < 2
  · have e : bErr p = 1 := by rw [bErr, if_pos h2]
    rw [e, bList_no (by omega)]
    exact (Build_low p w h0 h2).mono fun e w' h => ⟨_, h, Proofs.nil, fun h => by omega⟩
  obtain ⟨P, rfl⟩ : ∃ P : Nat, p = P := ⟨p.toNat, by omega⟩
  by_cases h3 : P = 2
  · subst h3
    have hi : isB ((2 : Nat) : Int) = true := (isB_iff _).2 ⟨by omega, fun c h1 h2 => by have := Int.mul_le_mul h1 h1 (by omega) (by omega); omega⟩
    have e : bErr ((2 : Nat) : Int) = 0 := by rw [bErr, if_neg (by omega), hi, if_pos rfl]
    have hb : ([] : List Int) = builtL ((2 : Nat) : Int) := built_eq (by simp) (fun n => ⟨fun h => by simp at h, fun h => absurd rfl h.1⟩)
    rw [e, bList, if_pos e, ← hb]
    refine (Build_ok [] genA good_nil (by simp) _ w (by omega) (by omega) (.inl rfl) hT).mono fun e w' h => ?_
    obtain ⟨v, ss, h1, h2, h3, h4, _⟩ := h
    have hss : ss = [] := by
      cases ss with
      | nil => rfl
      | cons a l => have := (h4 a (by simp)).1; simp at this
    subst hss
    exact ⟨v, h1, h2, fun _ => ⟨by rw [← hb]; simp, (isB_iff _).1 hi, fun _ => hb.symm, fun h => absurd rfl h, by omega, fun n hn => by rw [← hb] at hn; simp at hn, .inl rfl, fun n hn => by rw [← hb] at hn; simp at hn⟩⟩
  · cases hpc : isB (P : Int) with
    | false =>
      have e : bErr (P : Int) = 6 := by rw [bErr, if_neg h2, hpc, if_neg Bool.false_ne_true]
      have hpd : partsD ((P : Int) - 1) = ((partsD ((P : Int) - 1)).1, 0) := by rw [← partsD_small (n := (P : Int) - 1) (by omega) (by omega)]
      rw [e, bList_no (by omega)]
      exact (Build_none P _ w (by omega) (by omega) hpd (by rw [primeB_C P (by omega) (by omega), isB_prm (by omega) (by omega)]; exact hpc) hT).mono fun e w' h => ⟨_, h, Proofs.nil, fun h => by omega⟩
    | true =>
      have e : bErr (P : Int) = 0 := by rw [bErr, if_neg h2, hpc, if_pos rfl]
      have hP := (isB_iff _).1 hpc
      have hG := clo_good hP (by omega) (by omega)
      have hf := clo_few hP (by omega) (by omega)
      have hh := clo_head hP (by omega) (by omega)
      rw [e, bList, if_pos e]
      refine (Build_ok (clo 24 P) genA hG (by omega) P w (by omega) (by omega) (.inr hh) hT).mono fun e w' h => ?_
      obtain ⟨v, ss, h1, h2, h3, h4, h5, h6⟩ := h
      have hne : (P : Int) ≠ 2 := by omega
      have hps := h5.resolve_left hne
      have hss : ss = builtL (P : Int) := built_eq h3 (fun n => ⟨fun hn => ⟨hne, (h4 n hn).2⟩, fun hn => hn.2 (· ∈ ss) hps (fun m q hm hq hq2 => (h6 m hm q hq).resolve_left hq2)⟩)
      subst hss
      exact ⟨v, h1, h2, fun _ => ⟨h3, hP, fun h => absurd h hne, fun _ => by omega, by omega, fun n hn => by rw [Int.toNat_natCast]; exact h4 n hn, h5, h6⟩⟩

theorem mkPrf_ok {p : Int} (h : BF p) : ∀ f ∈ (builtL p).map (mkPrf genA), f.Ok := by
  intro f hf
  obtain ⟨n, hn, rfl⟩ := List.mem_map.1 hf
  have ha := h.all hn
  have hs := h.small
  have h2 : p ≠ 2 := fun e => by rw [h.two e] at hn; simp at hn
  have hg := (h.good h2).pos n (h.mem n hn).1
  exact ⟨by simp only [mkPrf]; omega, by simp only [mkPrf]; omega, by simp only [mkPrf]; omega, by simp only [mkPrf]; omega, by simp only [mkPrf]; exact partsD_Ok _⟩
theorem bList_ok {p : Int} (h : bErr p = 0 → BF p) : ∀ f ∈ bList p, f.Ok := by
  rw [bList]
  split
  · exact mkPrf_ok (h (by assumption))
  · simp
/-- what is built shows -/
theorem bList_shows {p : Int} (h : BF p) : showsB ((builtL p).map (mkPrf genA)) p = true := by
  have hlen := h.len
  have hget : ∀ k (hk : k < (builtL p).length), ((builtL p).map (mkPrf genA)).getD k .zero = mkPrf genA (builtL p)[k] := fun k hk => by simp [List.getD, List.getElem?_eq_getElem hk]
  have hfirst : firstD ((builtL p).map (mkPrf genA)) = ((builtL p).map (mkPrf genA)).length := by
    refine firstD_eq (Nat.le_refl _) (fun k hk => ?_) (fun h => by omega)
    rw [List.length_map] at hk
    have hn : (builtL p)[k] ∈ builtL p := List.getElem_mem hk
    have ha := h.all hn
    have hs := h.small
    have h2 : p ≠ 2 := fun e => by
      have : (builtL p).length = 0 := by rw [h.two e]; rfl
      omega
    have hG := h.good h2
    have hm := (h.mem _ hn).1
    rw [okAt, hget k hk]
    simp only [Bool.and_eq_true, decide_eq_true_eq]
    refine ⟨⟨by omega, ?_⟩, ?_⟩
    · cases k with
      | zero => simp only [lastD, mkPrf]; omega
      | succ k =>
        simp only [lastD]
        rw [hget k (by omega)]
        exact List.pairwise_iff_getElem.1 h.rise k (k + 1) (by omega) hk (by omega)
    · generalize hx : (builtL p)[k] = n at *
      obtain ⟨N, rfl⟩ : ∃ N : Nat, n = N := ⟨n.toNat, by omega⟩
      obtain ⟨g, eg, g1, g2, g3, _⟩ := gen_root ha.1 (by omega) (by omega)
      have hpf := partsD_full (hG.parts _ hm)
      simp only [provesB, mkPrf, Bool.and_eq_true, List.all_eq_true]
      refine ⟨⟨⟨⟨⟨decide_eq_true (by omega), ?_⟩, decide_eq_true ?_⟩, upB_steps hpf.2.2.2.1 hpf.2.2.1⟩, fun q hq => ?_⟩, hG.root _ hm⟩
      · exact hasB_iff.2 ⟨⟨by omega, by omega⟩, by omega⟩
      · have := parts_few (n := (N : Int) - 1) (by omega) (isP_odd ha.1 ha.2.1) (by omega)
        show (partsD ((N : Int) - 1)).1.length ≤ 20
        omega
      · rw [knownB, decide_eq_true_eq]
        rcases h.down _ hn q hq with h3 | h3
        · exact .inl h3
        · right
          have hle := parts_le (n := (N : Int) - 1) (by omega) (by omega) q hq
          obtain ⟨j, hj, ej⟩ := List.mem_iff_getElem.1 h3
          have hjk : j < k := by
            apply Classical.byContradiction
            intro hc
            by_cases e : j = k
            · subst e; omega
            · have := List.pairwise_iff_getElem.1 h.rise k j hk hj (by omega)
              omega
          rw [← List.map_take, List.map_map, List.mem_map]
          exact ⟨q.1, by rw [← ej]; exact List.mem_iff_getElem.2 ⟨j, by simp; omega, by simp⟩, rfl⟩
  rw [showsB, hfirst, decide_eq_true rfl, Bool.true_and, knownB, decide_eq_true_eq]
  rcases h.top with h1 | h1
  · exact .inl h1
  · exact .inr (by rw [List.map_map]; exact List.mem_map.2 ⟨p, h1, rfl⟩)
theorem bList_show {p : Int} (h : bErr p = 0 → BF p) (he : bErr p = 0) : showsB (bList p) p = true := by
  rw [bList, if_pos he]; exact bList_shows (h he)
end Go.Proofs.YthomeenmcajmdaaDoor
/- What Build's list of a prime is, as PrimeBuilds looks at it: least roots by powers alone, each number but the last a part of a later one. -/
namespace Go.Proofs.YthomeenmcajmdaaDoor
open Go.RowKit Go.Maps

theorem mpow_part {N j : Nat} (h1 : 1 ≤ N) {q : Int} (hq : 2 ≤ q) : mpow N j (((N : Int) - 1) / q) = ((j ^ ((N - 1) / q.toNat) % N : Nat) : Int) := by
  obtain ⟨Q, rfl⟩ : ∃ Q : Nat, q = Q := ⟨q.toNat, by omega⟩
  rw [show (N : Int) - 1 = ((N - 1 : Nat) : Int) by omega, ← Int.natCast_ediv, mpow_nat, Int.toNat_natCast]
theorem root_facts {N : Nat} (hP : IsP (N : Int)) (h3 : 3 ≤ N) (hlt : N < 16777216) : ∃ g : Nat, genA N = g ∧ 1 ≤ g ∧ g < N ∧ (∀ q ∈ partsOf N, mpow N g (((N : Int) - 1) / q.1) ≠ 1) ∧
    (∀ j : Nat, 1 ≤ j → j < g → ∃ q ∈ partsOf N, mpow N j (((N : Int) - 1) / q.1) = 1) ∧ ∀ q ∈ partsOf N, 2 ≤ q.1 ∧ q.1 ≤ (N : Int) - 1 := by
  obtain ⟨g, e, g1, g2, g3, g4⟩ := gen_root hP h3 hlt
  have hpl := parts_le (n := (N : Int) - 1) (by omega) (by omega)
  have hp := isP_prm hP
  rw [Int.natAbs_natCast] at hp
  refine ⟨g, e, g1, g2, fun q hq => ?_, fun j hj1 hj2 => ?_, hpl⟩
  · rw [mpow_part (by omega) (hpl q hq).1]
    rw [rootC, Bool.and_eq_true, List.all_eq_true] at g3
    have := g3.2 q hq
    rw [Bool.not_eq_true', ← Bool.not_eq_true, Nat.beq_eq, powC, if_pos ⟨by omega, g2⟩] at this
    omega
  · have h4 := g4 j hj1 hj2
    have hf := prm_fermat hp (show 0 < j by omega) (show j < N by omega)
    rw [rootC, powC, if_pos ⟨by omega, by omega⟩, hf, show Nat.beq 1 1 = true from rfl, Bool.true_and, List.all_eq_false] at h4
    obtain ⟨q, hq, h5⟩ := h4
    refine ⟨q, hq, ?_⟩
    rw [mpow_part (by omega) (hpl q hq).1]
    rw [Bool.not_eq_true, Bool.not_eq_false', Nat.beq_eq, powC, if_pos ⟨by omega, by omega⟩] at h5
    omega
theorem built_last {p : Int} (h : BF p) (h2 : p ≠ 2) : ∃ m, (builtL p).length = m + 1 ∧ (builtL p).getD m 0 = p :=
  last_of h.rise (h.top.resolve_left h2) fun _ hn => (h.all hn).2.2
/-- a number but p is a part of one behind it -/
theorem built_need {p : Int} (h : BF p) {k : Nat} (hk : k < (builtL p).length) : (builtL p).getD k 0 = p ∨ ∃ j, k < j ∧ j < (builtL p).length ∧ ∃ q ∈ partsOf ((builtL p).getD j 0), q.1 = (builtL p).getD k 0 := by
  rcases h.need (getD_mem (xs := builtL p) 0 hk) with h1 | ⟨m, hm, hlt, q, hq, e⟩
  · exact .inl h1
  · obtain ⟨j, hj, rfl⟩ := List.mem_iff_getElem.1 hm
    have hgd : ∀ i (hi : i < (builtL p).length), (builtL p).getD i 0 = (builtL p)[i] := fun i hi => by simp [List.getD, List.getElem?_eq_getElem hi]
    rw [hgd k hk] at hlt e ⊢
    refine .inr ⟨j, ?_, hj, q, by rw [hgd j hj]; exact hq, e⟩
    apply Classical.byContradiction
    intro hc
    by_cases ej : j = k
    · subst ej; omega
    · have := List.pairwise_iff_getElem.1 h.rise j k hj hk (by omega)
      omega
/-- is a number needed by those so far? -/
def NdB (p n : Int) (B0 : Bool) (k t : Nat) (B : Bool) : Prop := (B0 = true → B = true) ∧ ∀ j, k < j → j < t → (∃ q ∈ partsOf ((builtL p).getD j 0), q.1 = n) → B = true
/-- .. and by the parts so far -/
def NdI (p n : Int) (B0 : Bool) (k t i : Nat) (B : Bool) : Prop := NdB p n B0 k t B ∧ ∀ q ∈ (partsOf ((builtL p).getD t 0)).take i, q.1 = n → B = true
theorem NdB.start {p n : Int} {B0 : Bool} {k : Nat} : NdB p n B0 k (k + 1) B0 := ⟨id, fun j h1 h2 => by omega⟩
theorem NdB.into {p n : Int} {B0 B : Bool} {k t : Nat} (h : NdB p n B0 k t B) : NdI p n B0 k t 0 B := ⟨h, fun q hq => by simp at hq⟩
theorem NdI.out {p n : Int} {B0 B : Bool} {k t : Nat} (h : NdI p n B0 k t (partsOf ((builtL p).getD t 0)).length B) : NdB p n B0 k (t + 1) B := ⟨h.1.1, fun j h1 h2 hq => by
  by_cases e : j = t
  · subst e
    obtain ⟨q, hq, e⟩ := hq
    exact h.2 q (by rw [List.take_length]; exact hq) e
  · exact h.1.2 j h1 (by omega) hq⟩
theorem NdI.yes {p n : Int} {B0 : Bool} {k t i : Nat} : NdI p n B0 k t i true := ⟨⟨fun _ => rfl, fun _ _ _ _ => rfl⟩, fun _ _ _ => rfl⟩
theorem NdI.step {p n : Int} {B0 : Bool} {k t i : Nat} (h : NdI p n B0 k t i false) (hi : i < (partsOf ((builtL p).getD t 0)).length) {B : Bool} (hB : (((partsOf ((builtL p).getD t 0)).getD i (0, 0)).1 == n) = B) : NdI p n B0 k t (i + 1) B := by
  refine ⟨⟨fun h0 => absurd (h.1.1 h0) (by simp), fun j h1 h2 hq => absurd (h.1.2 j h1 h2 hq) (by simp)⟩, fun q hq e => ?_⟩
  have hg : (partsOf ((builtL p).getD t 0)).getD i (0, 0) = (partsOf ((builtL p).getD t 0))[i] := by rw [List.getD, List.getElem?_eq_getElem hi]; rfl
  rw [List.take_succ_eq_append_getElem hi] at hq
  rcases List.mem_append.1 hq with h1 | h1
  · exact absurd (h.2 q h1 e) (by simp)
  · rw [← hB, hg, ← List.mem_singleton.1 h1, e, beq_self_eq_true]
theorem NdB.need {p n : Int} {B0 B : Bool} {k m : Nat} (h : NdB p n B0 k m B) (hm : (builtL p).length = m) (h0 : (n == p) = B0) (hn : n = p ∨ ∃ j, k < j ∧ j < (builtL p).length ∧ ∃ q ∈ partsOf ((builtL p).getD j 0), q.1 = n) : B = true := by
  rcases hn with h1 | ⟨j, h1, h2, h3⟩
  · exact h.1 (by rw [← h0]; simpa using h1)
  · exact h.2 j h1 (by omega) h3
end Go.Proofs.YthomeenmcajmdaaDoor
/- The fixed answers that layer 2's statements begin with. -/
namespace Go.Proofs.YthomeenmcajmdaaDoor
open Go.RowKit Go.Maps

def gen7 (n : Int) : Int := if n = 3 then 2 else 3
theorem good7 : Good [3, 7] gen7 where
  range := by decide
  prime := by decide +kernel
  parts := by decide +kernel
  few := by decide +kernel
  pos := by decide
  root := by decide +kernel
  least := by
    intro n hn j h1 h2
    simp at hn
    rcases hn with rfl | rfl
    · have : j = 1 := by simp [gen7] at h2; omega
      subst this; decide +kernel
    · have : j = 1 ∨ j = 2 := by simp [gen7] at h2; omega
      rcases this with rfl | rfl
      · decide +kernel
      · decide +kernel
  down := by decide +kernel
theorem list7 {ss : List Int} (h1 : ss.Pairwise (· < ·)) (h2 : ∀ n ∈ ss, n ∈ ([3, 7] : List Int)) (h3 : 7 ∈ ss) (h4 : ∀ n ∈ ss, ∀ q ∈ partsOf n, q.1 = 2 ∨ q.1 ∈ ss) : ss = [3, 7] := by
  have h5 : (3 : Int) ∈ ss := by
    have hp : partsOf 7 = [(2, 1), (3, 1)] := by decide +kernel
    have := h4 7 h3 (3, 1) (by rw [hp]; simp)
    simpa using this
  have hnd : ss.Nodup := h1.imp (by intro a b h; omega)
  have hl := nodup_le ss [3, 7] hnd h2
  match ss, hl with
  | [], _ => simp at h3
  | [a], _ => simp at h3 h5; omega
  | [a, b], _ =>
    have ha := h2 a (by simp); have hb := h2 b (by simp)
    simp at ha hb h1
    rcases ha with rfl | rfl <;> rcases hb with rfl | rfl <;> simp_all
  | a :: b :: c :: r, h => simp at h

def seven : List Prf := [⟨3, 2, [(2, 1)]⟩, ⟨7, 3, [(2, 1), (3, 1)]⟩]
theorem seven_eq : [3, 7].map (mkPrf gen7) = seven := by
  have h1 : partsOf 3 = [(2, 1)] := by decide +kernel
  have h2 : partsOf 7 = [(2, 1), (3, 1)] := by decide +kernel
  simp [mkPrf, h1, h2, gen7, seven]
theorem seven_ok : ∀ f ∈ seven, f.Ok := by
  intro f hf
  simp [seven] at hf
  rcases hf with rfl | rfl <;> simp [Prf.Ok, PartsOk]
theorem seven_first : firstD seven = 2 := by decide +kernel
theorem seven_shows : showsB seven 7 = true := by decide +kernel
theorem small65537 : smallB 65537 = true := by decide +kernel
theorem parts12 : partsD 12 = ([(2, 2), (3, 1)], 0) := by decide +kernel
theorem parts8 : partsD (9 - 1) = ([(2, 3)], 0) := by decide +kernel
theorem prime9 : primeB 9 = false := by decide +kernel

set_option maxRecDepth 100000 in
set_option maxHeartbeats 2000000 in
theorem awake02 (w : World) (hT : Tab w) : Calls Tryd.prog 4 #[] w (Ret (.bool true) w) := by
  have HT := hid hT
  clear hT
  go_enter Tryd.func4, Tryd.ntmps4
  go_wp2_with fail
  refine (Build_ok [3, 7] gen7 good7 (by decide) 7 _ (by omega) (by omega) (.inr (by decide)) HT.out).mono ?_
  rintro _ w1 ⟨v, ss, ⟨rfl, x1⟩, hpr, hpw, hin, hst, hdn⟩
  obtain rfl := list7 hpw (fun n hn => (hin n hn).1) (hst.resolve_left (by decide)) hdn
  rw [seven_eq] at hpr
  have HV := hid hpr
  obtain ⟨a, cap, rfl, p1, p2, p3⟩ := hpr
  obtain ⟨b, off, rfl, hb, hc⟩ := p3 (by decide)
  obtain ⟨c1, c2, c3⟩ := hc 1 (by decide)
  clear hpw hin hst hdn p3 hc c3
  change w1.cell? ⟨b, off + 3, none⟩ = some (.int .u64 7) at c1
  change w1.cell? ⟨b, off + 3 + 1, none⟩ = some (.int .u64 3) at c2
  change 2 ≤ cap at p1
  have el : seven.length = 2 := rfl
  rw [el] at HV ⊢
  go_wp2_with fail
  have hP := Parts_any 12 w1 (by omega) (by omega)
  rw [parts12] at hP
  refine hP.mono ?_; rintro _ w2 ⟨v2, rfl, hrow, x2⟩
  have hv2 := Parts.own hrow
  obtain ⟨a2, cap2, rfl, q1, q2, q3⟩ := hv2
  obtain ⟨b2, off2, rfl, hb2, hc2⟩ := q3 (by decide)
  obtain ⟨d1, d2⟩ := hc2 0 (by decide)
  clear hrow q3 hc2 hP
  change w2.cell? ⟨b2, off2 + 0, none⟩ = some (.int .u64 2) at d1
  change w2.cell? ⟨b2, off2 + 0 + 1, none⟩ = some (.int .i64 2) at d2
  simp only [Nat.add_zero] at d1 d2
  go_wp2_with fail
  refine (Build_none 9 _ w2 (by omega) (by omega) parts8 prime9 ((HT.out.ext x1).ext x2)).mono ?_; rintro _ w3 ⟨rfl, x3⟩
  have e13 : Ext w1 w3 := x2.trans x3
  have c1' := (e13.cells _ _ hb).trans c1
  have c2' := (e13.cells _ _ hb).trans c2
  have d2' := (x3.cells _ _ hb2).trans d2
  clear c1 c2 d1 d2
  have H3 := hid (HV.out.ext e13)
  go_wp2_with fail
  refine (Check_any _ seven _ H3.out seven_ok).mono ?_; rintro _ w4 ⟨rfl, x4⟩
  rw [seven_first]
  have b1 : decide (2 = seven.length) = true := rfl
  rw [b1]
  go_wp2_with fail
  refine (Shows_any _ seven 7 _ (H3.out.ext x4) seven_ok).mono ?_; rintro _ w5 ⟨rfl, x5⟩
  rw [seven_shows]
  go_wp2_with fail
  refine (First_any _ seven _ ((H3.out.ext x4).ext x5) seven_ok).mono ?_; rintro _ w6 ⟨rfl, x6⟩
  rw [seven_first]
  go_wp2_with fail
  refine (Small_any 65537 _ (by omega) (by omega)).mono ?_; rintro _ w7 ⟨rfl, x7⟩
  rw [small65537]
  go_wp2_with fail
  go_ret
  exact ⟨rfl, ((((x1.trans e13).trans x4).trans x5).trans x6).trans x7⟩
end Go.Proofs.YthomeenmcajmdaaDoor
