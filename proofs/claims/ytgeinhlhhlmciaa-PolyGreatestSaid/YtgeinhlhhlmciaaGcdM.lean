/- Greatest divisors of polynomials over a prime (in plain Lean). -/
import Derived.Test.YtgeinhlhhlmciaaEuclid
namespace Go.Proofs.Ytgeinhlhhlmciaa
variable {p : Int}

/-- a number's inverse -/
theorem Fld.inv (h : Fld p) (hp : 2 ≤ p) {a : Int} (h0 : 0 < a) (ha : a < p) : a * minv p a % p = 1 := unit_inv p a hp (by omega) (h a h0 ha)
theorem Fld.linv (h : Fld p) (hp : 2 ≤ p) {xs : List Int} (hx : Pol p xs) (h0 : xs ≠ []) : lead xs * minv p (lead xs) % p = 1 := h.inv hp (hx.lead_range h0).1 (hx.lead_range h0).2

/-- who is the greatest divisor of two -/
structure IsGcd (p : Int) (A B G : List Int) : Prop where
  isp : Pol p G
  mon : G ≠ [] → lead G = 1
  da : ∃ u : Ser p, u.poly ∧ pol p A = u * pol p G
  db : ∃ u : Ser p, u.poly ∧ pol p B = u * pol p G
  comb : ∃ s t : Ser p, s.poly ∧ t.poly ∧ pol p G = s * pol p A + t * pol p B

/-- of two that are monic, one a multiple of the other and no longer, they are one -/
theorem monic_eq (hp : 2 ≤ p) {G H : List Int} (hG : Pol p G) (hH : Pol p H) (h0 : H ≠ []) (hg : lead G = 1) (hh : lead H = 1) (hl : G.length = H.length) {w : Ser p} (hw : w.poly) (h : pol p G = w * pol p H) : G = H := by
  have hlen := List.length_pos_iff.2 h0
  have hr : (pol p G - pol p H).low (H.length - 1) := fun k hk => by
    rw [Ser.sub_co, hG.rng.co, hH.rng.co]
    by_cases e : k = H.length - 1
    · have e1 : G.getD k 0 = 1 := by rw [e, ← hl]; exact hg
      have e2 : H.getD k 0 = 1 := by rw [e]; exact hh
      rw [e1, e2]; simp
    · rw [getD_over (xs := G) (by omega), getD_over (xs := H) (by omega)]; simp
  have h1 := pol_div_unique (q := w) (q' := 1) (r := 0) (r' := pol p G - pol p H) hH h0 (i := 1) (by rw [hh]; exact mod_small (by omega) (by omega)) hw Ser.poly_one (Ser.low_zero _) hr
    (by rw [Ser.add_zero, Ser.one_mul, ← h, Ser.add_comm, Ser.sub_add])
  exact hG.inj hH (Ser.eq_of_sub h1.2.symm)
theorem IsGcd.nil {A B G : List Int} (h : IsGcd p A B G) (hA : Pol p A) (hB : Pol p B) : G = [] ↔ A = [] ∧ B = [] := by
  constructor
  · intro e
    obtain ⟨u, _, h1⟩ := h.da
    obtain ⟨v, _, h2⟩ := h.db
    rw [e, pol_nil, Ser.mul_zero] at h1 h2
    exact ⟨hA.zero h1, hB.zero h2⟩
  · rintro ⟨rfl, rfl⟩
    obtain ⟨s, t, _, _, h1⟩ := h.comb
    rw [pol_nil, Ser.mul_zero, Ser.mul_zero, Ser.add_zero] at h1
    exact h.isp.zero h1
theorem IsGcd.swap {A B G : List Int} (h : IsGcd p A B G) : IsGcd p B A G := ⟨h.isp, h.mon, h.db, h.da, by
  obtain ⟨s, t, h1, h2, h3⟩ := h.comb
  exact ⟨t, s, h2, h1, by rw [h3, Ser.add_comm]⟩⟩
/-- who divides both divides it -/
theorem IsGcd.mul {A B G : List Int} (h : IsGcd p A B G) {d a b : Ser p} (ha : a.poly) (hb : b.poly) (h1 : pol p A = a * d) (h2 : pol p B = b * d) : ∃ w : Ser p, w.poly ∧ pol p G = w * d := by
  obtain ⟨s, t, hs, ht, h3⟩ := h.comb
  refine ⟨s * a + t * b, (hs.mul ha).add (ht.mul hb), ?_⟩
  rw [h3, h1, h2, Ser.add_mul, Ser.mul_assoc, Ser.mul_assoc]
theorem IsGcd.unique (hp : 2 ≤ p) {A B G H : List Int} (h : IsGcd p A B G) (h' : IsGcd p A B H) : G = H := by
  obtain ⟨a, ha, h1⟩ := h'.da
  obtain ⟨b, hb, h2⟩ := h'.db
  obtain ⟨w, hw, h3⟩ := h.mul ha hb h1 h2
  obtain ⟨a', ha', h4⟩ := h.da
  obtain ⟨b', hb', h5⟩ := h.db
  obtain ⟨w', hw', h6⟩ := h'.mul ha' hb' h4 h5
  by_cases eG : G = []
  · rw [eG, pol_nil, Ser.mul_zero] at h6
    rw [eG, h'.isp.zero h6]
  by_cases eH : H = []
  · rw [eH, pol_nil, Ser.mul_zero] at h3
    exact absurd (h.isp.zero h3) eG
  have i1 : (1 : Int) * 1 % p = 1 := mod_small (by omega) (by omega)
  have l1 := len_mul h.isp eG h'.isp (i := 1) (by rw [h'.mon eH]; exact i1) hw h3
  have l2 := len_mul h'.isp eH h.isp (i := 1) (by rw [h.mon eG]; exact i1) hw' h6
  exact monic_eq hp h.isp h'.isp eH (h.mon eG) (h'.mon eH) (by omega) hw h3
/-- who is monic and divides the other is their divisor -/
theorem IsGcd.of_dvd {A B : List Int} (hB : Pol p B) (hm : lead B = 1) {u : Ser p} (hu : u.poly) (h : pol p A = u * pol p B) : IsGcd p A B B :=
  ⟨hB, fun _ => hm, ⟨u, hu, h⟩, ⟨1, Ser.poly_one, (Ser.one_mul _).symm⟩, ⟨0, 1, Ser.poly_zero, Ser.poly_one, by rw [Ser.zero_mul, Ser.one_mul, Ser.zero_add]⟩⟩

/-- what is made monic -/
theorem monic_of {xs zs : List Int} {m : Int} (hx : Pol p xs) (h0 : xs ≠ []) (hz : Pol p zs) (h : pol p zs = pol p xs * Ser.C p m) (hm : lead xs * m % p = 1) (hm0 : 0 ≤ m) (hmp : m < p) : zs ≠ [] ∧ lead zs = 1 ∧ zs.length = xs.length := by
  have hl := List.length_pos_iff.2 h0
  have ht := Ser.mul_top (a := pol p xs) (b := Ser.C p m) (m := xs.length - 1) (n := 0) ((pol_low xs).mono (by omega)) (Ser.low_C m)
  rw [← h, hx.rng.co, Ser.C_co, if_pos rfl, mod_small hm0 hmp, Nat.add_zero, hz.rng.co, show xs.getD (xs.length - 1) 0 = lead xs from rfl, hm] at ht
  have h1 : xs.length ≤ zs.length := by
    apply Classical.byContradiction
    intro hn
    have := ht.1
    rw [getD_over (by omega)] at this
    omega
  have h2 : zs.length ≤ xs.length := hz.len_le (ht.2.mono (by omega))
  refine ⟨fun e => by have := congrArg List.length e; simp only [List.length_nil] at this; omega, ?_, by omega⟩
  show zs.getD (zs.length - 1) 0 = 1
  rw [show zs.length - 1 = xs.length - 1 by omega]
  exact ht.1

/-- a product over a prime has the degree of both -/
theorem Fld.mul_len (hF : Fld p) (hp : 2 ≤ p) {A B C : List Int} (hA : Pol p A) (hB : Pol p B) (hC : Pol p C) (a0 : A ≠ []) (b0 : B ≠ []) (h : pol p C = pol p A * pol p B) : C.length = A.length + B.length - 1 ∧ C ≠ [] ∧ lead C = lead A * lead B % p := by
  have la := List.length_pos_iff.2 a0
  have lb := List.length_pos_iff.2 b0
  have ht := Ser.mul_top (a := pol p A) (b := pol p B) (m := A.length - 1) (n := B.length - 1) ((pol_low A).mono (by omega)) ((pol_low B).mono (by omega))
  rw [← h, hA.rng.co, hB.rng.co, hC.rng.co, show A.getD (A.length - 1) 0 = lead A from rfl, show B.getD (B.length - 1) 0 = lead B from rfl] at ht
  have hn : lead A * lead B % p ≠ 0 := fun e => by
    have := top_stays (hF.linv hp hB b0 |> fun h => by rw [Int.mul_comm] at h; exact h : minv p (lead B) * lead B % p = 1) (Int.le_of_lt (hA.lead_range a0).1) (hA.lead_range a0).2 e
    exact hA.lead_ne a0 this
  have h1 : A.length + B.length - 1 ≤ C.length := by
    apply Classical.byContradiction
    intro hc
    have := ht.1
    rw [getD_over (by omega)] at this
    exact hn this.symm
  have h2 : C.length ≤ A.length + B.length - 1 := hC.len_le (ht.2.mono (by omega))
  refine ⟨by omega, fun e => by have := congrArg List.length e; simp only [List.length_nil] at this; omega, ?_⟩
  show C.getD (C.length - 1) 0 = _
  rw [show C.length - 1 = A.length - 1 + (B.length - 1) by omega]
  exact ht.1

/-! ### Euclid's rests -/
theorem Rems.dvd {R Q : Nat → List Int} {k : Nat} (h : Rems p R Q k) (h0 : R (k + 1) = []) : ∀ j i, i + j = k → (∃ u : Ser p, u.poly ∧ pol p (R i) = u * pol p (R k)) ∧ (∃ u : Ser p, u.poly ∧ pol p (R (i + 1)) = u * pol p (R k))
  | 0, i, e => by
    obtain rfl : i = k := by omega
    exact ⟨⟨1, Ser.poly_one, (Ser.one_mul _).symm⟩, ⟨0, Ser.poly_zero, by rw [h0, pol_nil, Ser.zero_mul]⟩⟩
  | j + 1, i, e => by
    obtain ⟨⟨u, hu, e1⟩, ⟨v, hv, e2⟩⟩ := Rems.dvd h h0 j (i + 1) (by omega)
    refine ⟨⟨pol p (Q i) * u + v, ((pol_poly _).mul hu).add hv, ?_⟩, ⟨u, hu, e1⟩⟩
    rw [h.eqn i (by omega), e2, e1, Ser.add_mul, Ser.mul_assoc]
theorem Rems.comb {R Q : Nat → List Int} {k : Nat} (h : Rems p R Q k) : ∀ j i, i + j = k → ∃ s t : Ser p, s.poly ∧ t.poly ∧ pol p (R k) = s * pol p (R i) + t * pol p (R (i + 1))
  | 0, i, e => by
    obtain rfl : i = k := by omega
    exact ⟨1, 0, Ser.poly_one, Ser.poly_zero, by rw [Ser.one_mul, Ser.zero_mul, Ser.add_zero]⟩
  | j + 1, i, e => by
    obtain ⟨s, t, hs, ht, e1⟩ := Rems.comb h j (i + 1) (by omega)
    refine ⟨t, s - t * pol p (Q i), ht, hs.sub (ht.mul (pol_poly _)), ?_⟩
    have e2 : s = s - t * pol p (Q i) + t * pol p (Q i) := (Ser.sub_add _ _).symm
    rw [h.eqn i (by omega), e1]
    conv => lhs; rw [e2]
    rw [Ser.add_mul, Ser.mul_add]
    ac_rfl
theorem Rems.gcd {R Q : Nat → List Int} {k : Nat} (hp : 2 ≤ p) (h : Rems p R Q k) (h0 : R (k + 1) = []) {G : List Int} (hG : Pol p G) (hm : G ≠ [] → lead G = 1) {c d : Int} (h1 : pol p G = pol p (R k) * Ser.C p c) (h2 : c * d % p = 1 ∨ R k = []) : IsGcd p (R 0) (R 1) G := by
  obtain ⟨⟨u, hu, e1⟩, ⟨v, hv, e2⟩⟩ := Rems.dvd h h0 k 0 (by omega)
  obtain ⟨s, t, hs, ht, e3⟩ := Rems.comb h k 0 (by omega)
  have e4 : pol p (R k) = pol p G * Ser.C p d := by
    rcases h2 with h2 | h2
    · rw [h1, Ser.mul_assoc, Ser.C_mul, Ser.C_congr (show c * d % p = 1 % p by rw [h2]; exact (mod_small (by omega) (by omega)).symm), Ser.C_one, Ser.mul_one]
    · rw [h1, h2, pol_nil, Ser.zero_mul, Ser.zero_mul]
  refine ⟨hG, hm, ⟨u * Ser.C p d, hu.mul (Ser.poly_C d), ?_⟩, ⟨v * Ser.C p d, hv.mul (Ser.poly_C d), ?_⟩, ⟨s * Ser.C p c, t * Ser.C p c, hs.mul (Ser.poly_C c), ht.mul (Ser.poly_C c), ?_⟩⟩
  · rw [e1, e4]; ac_rfl
  · rw [show (1 : Nat) = 0 + 1 from rfl, e2, e4]; ac_rfl
  · rw [h1, e3, Ser.add_mul]; ac_rfl
end Go.Proofs.Ytgeinhlhhlmciaa
