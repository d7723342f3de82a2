/- What trial division finds: primes whose product is the number. -/
import Derived.Test.YtncidpckokclbaaDoorProof
import Derived.Test.YtncidpckokclbaaDoorRef02
import Derived.Test.YtncidpckokclbaaDoorSmall
namespace Go.Proofs.YtncidpckokclbaaDoor
open Go.RowKit Go.Maps

/-- divided by each part in turn -/
def steps : List (Int × Int) → Int → Option Int
  | [], n => some n
  | (q, t) :: ps, n => match divs q t.toNat n with
    | none => none
    | some m => steps ps m
/-- parts rise above last, each at least once -/
def rises : Int → List (Int × Int) → Prop
  | _, [] => True
  | last, (q, t) :: ps => last < q ∧ 1 ≤ t ∧ rises q ps
theorem upB_steps : ∀ {ps : List (Int × Int)} {last n : Int}, rises last ps → steps ps n = some 1 → upB last ps n = true
  | [], last, n, _, h => by simp [steps] at h; simp [upB, h]
  | (q, t) :: ps, last, n, hr, h => by
    obtain ⟨h1, h2, h3⟩ := hr
    rw [upB, if_neg (by omega)]
    rw [steps] at h
    cases e : divs q t.toNat n with
    | none => rw [e] at h; cases h
    | some m =>
      rw [e] at h
      exact upB_steps h3 h
theorem rises_low : ∀ {ps : List (Int × Int)} {a b : Int}, rises b ps → a ≤ b → rises a ps
  | [], _, _, _, _ => trivial
  | (q, t) :: ps, a, b, h, hab => ⟨by have := h.1; omega, h.2.1, h.2.2⟩
theorem rises_snoc : ∀ {ps : List (Int × Int)} {a q t : Int}, rises a ps → (∀ x ∈ ps, x.1 < q) → a < q → 1 ≤ t → rises a (ps ++ [(q, t)])
  | [], a, q, t, _, _, h2, h3 => ⟨h2, h3, trivial⟩
  | (p, s) :: ps, a, q, t, h, h1, h2, h3 => ⟨h.1, h.2.1, rises_snoc h.2.2 (fun x hx => h1 x (by simp [hx])) (h1 (p, s) (by simp)) h3⟩
theorem steps_snoc : ∀ {ps : List (Int × Int)} {n m q t k : Int}, steps ps n = some m → divs q t.toNat m = some k → steps (ps ++ [(q, t)]) n = some k
  | [], n, m, q, t, k, h, hd => by simp [steps] at h; subst h; simp [steps, hd]
  | (p, s) :: ps, n, m, q, t, k, h, hd => by
    rw [steps] at h
    cases e : divs p s.toNat n with
    | none => rw [e] at h; cases h
    | some x =>
      rw [e] at h
      simp only [List.cons_append, steps, e]
      exact steps_snoc h hd

theorem strip_spec {d : Int} (hd : 2 ≤ d) : ∀ (f : Nat) (n : Int), 1 ≤ n → n < 2 ^ f →
    divs d (stripT d f n).toNat n = some (stripN d f n) ∧ stripN d f n % d ≠ 0 ∧ (∃ k, 1 ≤ k ∧ n = k * stripN d f n)
  | 0, n, h1, h2 => by simp at h2; omega
  | f + 1, n, h1, h2 => by
    by_cases hz : n % d = 0
    · have hh := strip_half (t := 0) (m := n) hd h1 hz (by simp)
      have hb : n / d < 2 ^ f := by
        have : n / d * 2 ^ (0 + 1) ≤ n := hh.1
        rw [Int.pow_succ] at h2
        simp at this
        omega
      have ih := strip_spec hd f (n / d) hh.2.1 hb
      have hle := stripN_le hd f (n / d) hh.2.1
      rw [(strip_step hz).1, (strip_step hz).2]
      refine ⟨?_, ih.2.1, ?_⟩
      · rw [show (stripT d f (n / d) + 1).toNat = (stripT d f (n / d)).toNat + 1 by omega, divs, if_pos hz]
        exact ih.1
      · obtain ⟨k, hk, e⟩ := ih.2.2
        refine ⟨d * k, ?_, ?_⟩
        · have := Int.mul_le_mul hd hk (by omega) (by omega); omega
        · rw [Int.mul_assoc, ← e]; exact (Int.mul_ediv_cancel' (Int.dvd_of_emod_eq_zero hz)).symm
    · rw [(strip_zero _ hz).1, (strip_zero _ hz).2]
      exact ⟨rfl, hz, 1, by omega, by omega⟩

theorem not_div_of {n k m c : Int} (e : n = k * m) (h : n % c ≠ 0) : m % c ≠ 0 := fun hz => by
  obtain ⟨x, hx⟩ := Int.dvd_of_emod_eq_zero hz
  apply h
  rw [e, hx, Int.mul_left_comm]
  exact Int.mul_emod_right c (k * x)
theorem partsF_spec : ∀ (f : Nat) (d n : Int), 2 ≤ d → d + f ≤ 65537 → 1 ≤ n → n < 18446744073709551616 → (∀ c, 2 ≤ c → c < d → n % c ≠ 0) →
    steps (partsF f d n).1 n = some (partsF f d n).2 ∧ rises (d - 1) (partsF f d n).1 ∧ (∀ q ∈ (partsF f d n).1, IsP q.1) ∧
      (∀ q ∈ (partsF f d n).1, 1 < (partsF f d n).2 → q.1 < (partsF f d n).2) ∧ (d + f = 65537 → 1 < (partsF f d n).2 → (partsF f d n).2 < 4294967296 → IsP (partsF f d n).2) ∧ (∀ c, 2 ≤ c → c < d → (partsF f d n).2 % c ≠ 0)
  | 0, d, n, hd, hf, h1, h2, hc => by
    simp only [partsF]
    refine ⟨rfl, trivial, by simp, by simp, fun he hn hn2 => ⟨by omega, fun c h3 h4 => ?_⟩, hc⟩
    rcases Int.lt_or_le c d with h5 | h5
    · exact hc c h3 h5
    · have h6 : 65537 ≤ c := by omega
      have := Int.mul_le_mul h6 h6 (by omega) (by omega)
      omega
  | f + 1, d, n, hd, hf, h1, h2, hc => by
    by_cases hle : d * d ≤ n
    · have hs := strip_spec hd 64 n h1 (Int.lt_of_lt_of_le h2 (by decide))
      have hn := stripN_le hd 64 n h1
      obtain ⟨k, hk, ek⟩ := hs.2.2
      have hc2 : ∀ c, 2 ≤ c → c < d + 1 → stripN d 64 n % c ≠ 0 := fun c h3 h4 => by
        rcases Int.lt_or_le c d with h5 | h5
        · exact not_div_of ek (hc c h3 h5)
        · obtain rfl : c = d := by omega
          exact hs.2.1
      have ih := partsF_spec f (d + 1) (stripN d 64 n) (by omega) (by omega) hn.1 (by omega) hc2
      have hr := partsF_ok f (d + 1) (stripN d 64 n) (by omega) (by omega) hn.1
      rw [partsF, if_pos hle]
      simp only
      by_cases ht : 0 < stripT d 64 n
      · rw [if_pos ht]
        have hz : n % d = 0 := by
          apply Classical.byContradiction
          intro hz
          rw [(strip_zero 64 hz).1] at ht
          omega
        refine ⟨?_, ⟨by omega, by omega, rises_low ih.2.1 (by omega)⟩, fun q hq => ?_, fun q hq h5 => ?_, fun he => ih.2.2.2.2.1 (by omega), fun c h3 h4 => ih.2.2.2.2.2 c h3 (by omega)⟩
        · rw [steps, hs.1]; exact ih.1
        · rcases List.mem_cons.1 hq with rfl | hq
          · refine ⟨hd, fun c h3 h4 hz2 => ?_⟩
            simp only at h4 hz2
            have h5 : c < d := by
              rcases Int.lt_or_le c d with h6 | h6
              · exact h6
              · have := Int.mul_le_mul h6 h3 (by omega) (by omega); omega
            exact hc c h3 h5 (Int.emod_eq_zero_of_dvd (Int.dvd_trans (Int.dvd_of_emod_eq_zero hz2) (Int.dvd_of_emod_eq_zero hz)))
          · exact ih.2.2.1 q hq
        · rcases List.mem_cons.1 hq with rfl | hq
          · simp only
            apply Classical.byContradiction
            intro h6
            exact ih.2.2.2.2.2 (partsF f (d + 1) (stripN d 64 n)).2 (by omega) (by omega) Int.emod_self
          · exact ih.2.2.2.1 q hq h5
      · rw [if_neg ht]
        exact ⟨by
          have h0 : stripT d 64 n = 0 := by omega
          have := hs.1
          rw [h0] at this
          simp [divs] at this
          rw [← this] at ih ⊢
          exact ih.1, rises_low ih.2.1 (by omega), ih.2.2.1, ih.2.2.2.1, fun he => ih.2.2.2.2.1 (by omega), fun c h3 h4 => ih.2.2.2.2.2 c h3 (by omega)⟩
    · rw [partsF, if_neg hle]
      refine ⟨rfl, trivial, by simp, by simp, fun _ hn hn2 => ⟨by omega, fun c h3 h4 => ?_⟩, hc⟩
      rcases Int.lt_or_le c d with h5 | h5
      · exact hc c h3 h5
      · have := Int.mul_le_mul h5 h5 (by omega) (by omega)
        omega

/-- what Parts tells without an error: rising primes, whose product is the number -/
theorem partsD_full {n : Int} (he : (partsD n).2 = 0) : 1 ≤ n ∧ n < 9223372036854775808 ∧ steps (partsD n).1 n = some 1 ∧ rises 1 (partsD n).1 ∧ ∀ q ∈ (partsD n).1, IsP q.1 := by
  unfold partsD at he ⊢
  by_cases h : n ≤ 0 ∨ 9223372036854775808 ≤ n
  · rw [if_pos h] at he; simp at he
  · rw [if_neg h] at he ⊢
    have hs := partsF_spec 65535 2 n (by omega) (by omega) (by omega) (by omega) (fun c h1 h2 => by omega)
    have hr := partsF_ok 65535 2 n (by omega) (by omega) (by omega)
    simp only at he ⊢
    refine ⟨by omega, by omega, ?_⟩
    by_cases hb : 4294967296 ≤ (partsF 65535 2 n).2
    · rw [if_pos hb] at he; simp at he
    · rw [if_neg hb] at he ⊢
      by_cases h1 : 1 < (partsF 65535 2 n).2
      · rw [if_pos h1]
        refine ⟨steps_snoc hs.1 ?_, rises_snoc hs.2.1 (fun x hx => hs.2.2.2.1 x hx h1) (by omega) (by omega), fun q hq => ?_⟩
        · show divs _ (1 : Int).toNat _ = some 1
          rw [show (1 : Int).toNat = 1 by rfl, divs, if_pos Int.emod_self, divs, Int.ediv_self (by omega)]
        · rcases List.mem_append.1 hq with hq | hq
          · exact hs.2.2.1 q hq
          · simp at hq
            subst hq
            exact hs.2.2.2.2.1 (by omega) h1 (by omega)
      · rw [if_neg h1]
        refine ⟨?_, hs.2.1, hs.2.2.1⟩
        rw [hs.1]
        congr 1
        omega
theorem partsF_none : ∀ (f : Nat) (d n : Int), 2 ≤ d → 1 ≤ n → (∀ c, d ≤ c → c * c ≤ n → n % c ≠ 0) → partsF f d n = ([], n)
  | 0, d, n, _, _, _ => rfl
  | f + 1, d, n, hd, hn, hc => by
    rw [partsF]
    by_cases hle : d * d ≤ n
    · have hz := strip_zero 64 (hc d (Int.le_refl d) hle)
      rw [if_pos hle, hz.1, hz.2, if_neg (by omega), partsF_none f (d + 1) n (by omega) hn (fun c h1 h2 => hc c (by omega) h2)]
    · rw [if_neg hle]
theorem partsD_prime {n : Int} (h : IsP n) (hn : n < 4294967296) : partsD n = ([(n, 1)], 0) := by
  have h2 := h.1
  unfold partsD
  rw [if_neg (by omega), partsF_none 65535 2 n (by omega) (by omega) (fun c h1 h3 => h.2 c h1 h3)]
  simp only
  rw [if_neg (by omega), if_pos (by omega)]
  rfl
theorem small_is {n : Int} (h0 : 0 ≤ n) (hn : n < 4294967296) : smallB n = isB n := by
  rw [Bool.eq_iff_iff, isB_iff]
  constructor
  · intro h
    rw [smallB, if_neg (by omega)] at h
    simp only [Bool.and_eq_true, decide_eq_true_eq] at h
    obtain ⟨⟨h1, h2⟩, h3⟩ := h
    obtain ⟨_, _, h4, _, h5⟩ := partsD_full h1
    generalize (partsD n).1 = ps at *
    match ps, h2 with
    | [(q, t)], _ =>
      simp at h3
      subst h3
      have hq := h5 (q, 1) (by simp)
      simp only [steps, show (1 : Int).toNat = 1 by rfl, divs] at h4
      by_cases hz : n % q = 0
      · rw [if_pos hz] at h4
        simp at h4
        have e := Int.mul_ediv_cancel' (Int.dvd_of_emod_eq_zero hz)
        rw [h4, Int.mul_one] at e
        rw [← e]; exact hq
      · rw [if_neg hz] at h4; cases h4
  · intro h
    rw [smallB, if_neg (by omega), partsD_prime h hn]
    simp
end Go.Proofs.YtncidpckokclbaaDoor
