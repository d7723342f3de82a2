/- A row that a rule goes on from its first numbers: the shortest rule of twice as many goes on as it does, and its polynomial divides the other's. -/
import Derived.Test.YtbpbagejblbacaaRuleN
namespace Go.Proofs.Ytbpbagejblbacaa
open Go.RowKit
variable {p : Int}

/-- a polynomial the other way round -/
def Ser.rev (n : Nat) (a : Ser p) : Ser p := .of p fun k => if k ≤ n then a.co (n - k) else 0
theorem Ser.rev_co (n : Nat) (a : Ser p) (k : Nat) : (Ser.rev n a).co k = if k ≤ n then a.co (n - k) else 0 := by
  show (if k ≤ n then a.co (n - k) else 0) % p = _
  split
  · exact a.ok _
  · simp
theorem Ser.rev_low (n : Nat) (a : Ser p) : (Ser.rev n a).low (n + 1) := fun k hk => by rw [Ser.rev_co, if_neg (by omega)]
theorem Ser.rev_add (n : Nat) (a b : Ser p) : Ser.rev n (a + b) = Ser.rev n a + Ser.rev n b := Ser.ext_ fun k => by
  rw [Ser.rev_co, Ser.add_co, Ser.add_co, Ser.rev_co, Ser.rev_co]
  split
  · rfl
  · simp
theorem Ser.rev_rev {n : Nat} {a : Ser p} (h : a.low (n + 1)) : Ser.rev n (Ser.rev n a) = a := Ser.ext_ fun k => by
  rw [Ser.rev_co]
  split
  · rw [Ser.rev_co, if_pos (by omega), show n - (n - k) = k by omega]
  · rw [h k (by omega)]
theorem Ser.rev_mul {n e : Nat} {a b : Ser p} (ha : a.low (n + 1)) (hb : b.low (e + 1)) : Ser.rev (n + e) (a * b) = Ser.rev n a * Ser.rev e b := Ser.ext_ fun k => by
  rw [Ser.rev_co]
  split
  · rename_i hk
    obtain ⟨c, hc⟩ : ∃ c, min n (n + e - k) - (n - k) + 1 = c := ⟨_, rfl⟩
    rw [Ser.mul_co, Ser.mul_co, cv, cv,
      sm_piece (n - k) c (by omega) (fun i hi => by rw [hb _ (by omega), Int.mul_zero]) (fun i h1 h2 => by rw [ha _ (by omega), Int.zero_mul]),
      sm_piece (k - e) c (n := k + 1) (by omega) (fun i hi => by rw [Ser.rev_low e b _ (by omega), Int.mul_zero]) (fun i h1 h2 => by rw [Ser.rev_low n a _ (by omega), Int.zero_mul]), sm_rev]
    congr 1
    refine sm_congr fun i hi => ?_
    rw [Ser.rev_co, Ser.rev_co, if_pos (by omega), if_pos (by omega), show n - k + (c - 1 - i) = n - (k - e + i) by omega, show n + e - k - (n - (k - e + i)) = e - (k - (k - e + i)) by omega]
  · rw [((Ser.rev_low n a).mul (Ser.rev_low e b)) k (by omega)]
theorem pol_rev {c : List Int} {n : Nat} (h : c.length = n + 1) : pol p c.reverse = Ser.rev n (pol p c) := Ser.ext_ fun k => by
  rw [Ser.rev_co, pol_co]
  split
  · rw [rev_get c (by omega), pol_co, show c.length - 1 - k = n - k by omega]
  · rw [getD_over (by rw [List.length_reverse]; omega), Int.zero_emod]
/-- what is obeyed by a short rule for long, and by another one for longer, is obeyed by the short one, too -/
theorem Ob.follow {s c d : Ser p} {n m K N : Nat} (hc : Ob s c n N) (hd : Ob s d m K) (hK : n + m ≤ K) : ∀ M, M ≤ N → Ob s d m M
  | 0, _ => hd.less (Nat.zero_le _)
  | M + 1, h => by
    rcases Nat.lt_or_ge M K with h1 | h1
    · exact hd.less h1
    · have hM := hc.follow hd hK M (by omega)
      refine hM.next fun _ => ?_
      apply Classical.byContradiction
      intro hne
      have := hM.bound hne (hc.less h)
      omega
/-- nothing is left -/
theorem finds_div {s t c d : Ser p} {C D : Ser p} {qs rs : List Int} {n m N : Nat} (hp : 2 ≤ p) (hF : Fld p) (hC : Ser.rev n C = c) (hD : Ser.rev m D = d) (hDl : D.low (m + 1)) (hmn : m ≤ n) (hq : qs.length ≤ n - m + 1) (hr : Pol p rs) (hrl : rs.length ≤ m)
    (e : C = pol p qs * D + pol p rs) (hc : Ob t c n N) (hd : Ob t d m N) (hst : ∀ i, i < N - n → s.co i = t.co i) (hleast : ∀ c' l', Ob s c' l' (N - n) → m ≤ l') : rs = [] := by
  apply Classical.byContradiction
  intro hne
  have hl := List.length_pos_iff.2 hne
  obtain ⟨r, hr1⟩ : ∃ r, rs.length = r + 1 := ⟨rs.length - 1, by omega⟩
  have hlead := hr.lead_range hne
  have hiv := unit_inv p (lead rs) hp (by omega) (hF _ hlead.1 hlead.2)
  obtain ⟨y, hy⟩ : ∃ y, minv p (lead rs) = y := ⟨_, rfl⟩
  rw [hy] at hiv
  have hql : (pol p qs).low (n - m + 1) := (pol_low qs).mono hq
  -- the rest the other way round
  have e1 : c = Ser.rev (n - m) (pol p qs) * d + Ser.rev n (pol p rs) := by
    rw [← hC, e, Ser.rev_add]
    congr 1
    have := Ser.rev_mul hql hDl
    rw [show n - m + m = n by omega] at this
    rw [this, hD]
  have e2 : Ser.rev n (pol p rs) = Ser.up (n - r) (Ser.rev r (pol p rs)) := Ser.ext_ fun k => by
    rw [Ser.rev_co, Ser.up_co, Ser.rev_co]
    by_cases h1 : k ≤ n
    · rw [if_pos h1]
      by_cases h2 : k < n - r
      · rw [if_pos h2, pol_low rs _ (by omega)]
      · rw [if_neg h2, if_pos (by omega), show r - (k - (n - r)) = n - k by omega]
    · rw [if_neg h1, if_neg (by omega), if_neg (by omega)]
  have e3 : ∀ i, n ≤ i → i < N → (Ser.up (n - r) (Ser.rev r (pol p rs)) * t).co i = 0 := fun i h1 h2 => by
    have h3 := hc.obe i h1 h2
    rw [e1, e2, Ser.add_mul, Ser.add_co, Ser.mul_assoc, mul_zero_at (Ser.rev_low _ _) (fun k h4 h5 => hd.obe k (by omega) (by omega)), Int.zero_add, Ser.ok] at h3
    exact h3
  have hob : Ob t (Ser.C p y * Ser.rev r (pol p rs)) r (N - n) := by
    refine ⟨((Ser.low_C y).mul (Ser.rev_low r _)).mono (by omega), ?_, fun i h1 h2 => ?_⟩
    · rw [Ser.C_mul_co, Ser.rev_co, if_pos (Nat.zero_le _), Nat.sub_zero, hr.rng.co, Int.mul_comm]
      have : rs.getD r 0 = lead rs := by unfold lead; rw [hr1]; rfl
      rw [this, hiv]
    · have h3 := e3 (i + (n - r)) (by omega) (by omega)
      rw [Ser.up_mul, Ser.up_co, if_neg (by omega), show i + (n - r) - (n - r) = i by omega] at h3
      rw [Ser.mul_assoc, Ser.C_mul_co, h3]; simp
  have := hleast _ _ (hob.congr fun i hi => (hst i hi).symm)
  omega

/-- what a rule c of length n goes on from n numbers is known by 2 n of them -/
theorem finds {first c d : List Int} {n : Nat} (hp : 2 ≤ p) (hf : Rng p first) (hfl : first.length = n) (hcr : Rng p c) (hc0 : c.getD 0 0 = 1) (hcl : c.length = n + 1) (h : RuleIs p (onL p c first n) d) :
    d.length ≤ c.length ∧ onL p c first (n + 2 * n) = onL p d (onL p c first n) (2 * n) ∧ Ob (pol p (onL p c first (n + 2 * n))) (pol p c) n (4 * n) ∧ Ob (pol p (onL p c first (n + 2 * n))) (pol p d) (d.length - 1) (4 * n) ∧
    ∀ i, i < 2 * n → (pol p (onL p c first n)).co i = (pol p (onL p c first (n + 2 * n))).co i := by
  have c1 : (pol p c).co 0 = 1 := by rw [hcr.co]; exact hc0
  obtain ⟨h1, h2, h3, h4, h5, h6⟩ := h
  have hsl := onL_len (p := p) c first n
  have htl := onL_len (p := p) c first (n + 2 * n)
  have hob1 : Ob (pol p (onL p c first n)) (pol p c) n (2 * n) := ⟨(pol_low c).mono (by omega), c1, fun i h1 h2 => onL_obe c1 n i (by omega) (by omega)⟩
  have hob2 : Ob (pol p (onL p c first (n + 2 * n))) (pol p c) n (4 * n) := ⟨(pol_low c).mono (by omega), c1, fun i h1 h2 => onL_obe c1 _ i (by omega) (by omega)⟩
  rw [hsl, hfl, show n + n = 2 * n by omega] at h5 h6
  have hm := h6 _ _ hob1
  have hst : ∀ i, i < 2 * n → (onL p c first (n + 2 * n)).getD i 0 = (onL p c first n).getD i 0 := fun i hi => by
    rw [← onL_onL c first n (2 * n)]
    exact onL_get c _ (by omega)
  have hob3 : Ob (pol p (onL p c first (n + 2 * n))) (pol p d) (d.length - 1) (2 * n) := h5.congr fun i hi => by rw [pol_co, pol_co, hst i hi]
  have hob4 := hob2.follow hob3 (by omega) (4 * n) (Nat.le_refl _)
  refine ⟨by omega, ?_, hob2, hob4, fun i hi => by rw [pol_co, pol_co, hst i hi]⟩
  exact onL_unique hp hob4.one (2 * n) _ (onL_rng hp hf _) (by rw [htl, hsl]; omega) (fun j hj => hst j (by omega)) (fun i h7 h8 => hob4.obe i (by omega) (by omega))
end Go.Proofs.Ytbpbagejblbacaa
