/- What the texts Awake03, SameM, BezM show, in one text. -/
import Derived.Test.YtijpeepdedfhoaaGreatBun13
import Derived.Test.YtijpeepdedfhoaaGreatEval
import Derived.Test.YtijpeepdedfhoaaGreatFldP
import Derived.Test.YtijpeepdedfhoaaGreatBun05
/- The first look of layer 3's laws: it answers true. -/
namespace Go.Proofs.YtijpeepdedfhoaaGreat
open Go.RowKit

/-- a least multiple is one, as monic ones are -/
theorem lcm_unique {p : Int} (hF : Fld p) (hp : 2 ≤ p) {L1 L2 G : List Int} (h1 : Pol p L1) (h2 : Pol p L2) (hG : Pol p G) (n1 : L1 ≠ []) (n2 : L2 ≠ []) (g0 : G ≠ []) (m1 : lead L1 = 1) (m2 : lead L2 = 1) {F : Ser p} {c1 c2 : Int}
    (e1 : pol p L1 * pol p G = Ser.C p c1 * F) (e2 : pol p L2 * pol p G = Ser.C p c2 * F) : L1 = L2 := by
  have key : ∀ {L M : List Int} {c d : Int}, Pol p L → Pol p M → L ≠ [] → pol p L * pol p G = Ser.C p c * F → pol p M * pol p G = Ser.C p d * F → ∃ w : Ser p, w.poly ∧ pol p M = w * pol p L := by
    intro L M c d hL hM nL eL eM
    have hc : c % p ≠ 0 := fun e => by
      have : Ser.C p c = 0 := by rw [Ser.C_congr (show c % p = 0 % p by rw [e]; simp), Ser.C_zero]
      rw [this, Ser.zero_mul] at eL
      have := pol_div_unique (q := pol p L) (q' := 0) (r := 0) (r' := 0) hG g0 (hF.linv hp hG g0) (pol_poly _) Ser.poly_zero (Ser.low_zero _) (Ser.low_zero _) (by rw [eL, Ser.zero_mul])
      exact nL (hL.zero this.1)
    have hr := mod_range c hp
    have hi := hF.inv hp (show 0 < c % p by omega) hr.2
    obtain ⟨i, ei⟩ : ∃ i, minv p (c % p) = i := ⟨_, rfl⟩
    rw [ei, mm_l] at hi
    have hF2 : F = Ser.C p i * (pol p L * pol p G) := by
      rw [eL, ← Ser.mul_assoc, Ser.C_mul, Ser.C_congr (show i * c % p = 1 % p by rw [Int.mul_comm, hi]; exact (mod_small (by omega) (by omega)).symm), Ser.C_one, Ser.one_mul]
    refine ⟨Ser.C p d * Ser.C p i, (Ser.poly_C d).mul (Ser.poly_C i), ?_⟩
    refine (pol_div_unique (q := pol p M) (q' := Ser.C p d * Ser.C p i * pol p L) (r := 0) (r' := 0) hG g0 (hF.linv hp hG g0) (pol_poly _) (((Ser.poly_C d).mul (Ser.poly_C i)).mul (pol_poly _)) (Ser.low_zero _) (Ser.low_zero _) ?_).1
    rw [eM, hF2]
    ac_rfl
  obtain ⟨w, hw, ew⟩ := key h1 h2 n1 e1 e2
  obtain ⟨v, hv, ev⟩ := key h2 h1 n2 e2 e1
  have i1 : (1 : Int) * 1 % p = 1 := mod_small (by omega) (by omega)
  have l1 := len_mul h2 n2 h1 (i := 1) (by rw [m1]; exact i1) hw ew
  have l2 := len_mul h1 n1 h2 (i := 1) (by rw [m2]; exact i1) hv ev
  exact monic_eq hp h1 h2 n2 m1 m2 (by omega) hv ev

theorem fld7 : Fld 7 := fun a h0 h => by
  have : a = 1 ∨ a = 2 ∨ a = 3 ∨ a = 4 ∨ a = 5 ∨ a = 6 := by omega
  rcases this with rfl | rfl | rfl | rfl | rfl | rfl <;> decide
theorem pol61 : Pol 7 [6, 1] := ⟨by unfold Rng; decide, fun _ => by decide⟩
theorem pol601 : Pol 7 [6, 0, 1] := ⟨by unfold Rng; decide, fun _ => by decide⟩
theorem pol11 : Pol 7 [1, 1] := ⟨by unfold Rng; decide, fun _ => by decide⟩
theorem mul61 : pol 7 [1, 1] * pol 7 [6, 1] = pol 7 [6, 0, 1] := Ser.ext_ fun k => by
  match k with
  | 0 => decide
  | 1 => decide
  | 2 => decide
  | k + 3 =>
    rw [((pol_low (p := 7) [1, 1]).mul (pol_low [6, 1])) (k + 3) (by simp), (pol_low (p := 7) [6, 0, 1]) (k + 3) (by simp)]
theorem gcd61 : IsGcd 7 [6, 0, 1] [6, 1] [6, 1] := IsGcd.of_dvd pol61 (by decide) (pol_poly [1, 1]) mul61.symm

end Go.Proofs.YtijpeepdedfhoaaGreat
/- What is made monic, greatest divisors and least multiples: which of them are one. -/
namespace Go.Proofs.YtijpeepdedfhoaaGreat
open Go.RowKit

/-- a polynomial, monic -/
structure MonicOf (p : Int) (xs M : List Int) : Prop where
  isp : Pol p M
  nil : xs = [] → M = []
  one : xs ≠ [] → M ≠ [] ∧ lead M = 1 ∧ M.length = xs.length
  eqn : ∃ c d : Int, pol p M = pol p xs * Ser.C p c ∧ pol p xs = pol p M * Ser.C p d
def RetMon (p : Int) (xs : List Int) (w : World) (e : Ending) (w' : World) : Prop := ∃ v M, e = .returned (.tuple #[v, .int .i64 0]) ∧ Ints .u64 w' v M ∧ MonicOf p xs M ∧ Ext w w'
theorem pMonic_any (p : Int) (v : Value) (xs : List Int) (w : World) (hp : rightB p = true) (hF : Fld p) (hv : Ints .u64 w v xs) (hx : Pol p xs) (hl : xs.length ≤ 512) :
    Calls Tryz.prog 95 #[.int .u64 p, v] w (RetMon p xs w) := by
  have hp2 := rightB_true hp
  by_cases h0 : xs = []
  · subst h0
    refine (pMonic_nil p v w hp hv).mono ?_
    rintro _ w' ⟨v1, M, rfl, h1, h2, h3, h4⟩
    have hM : M = [] := h2.zero h3
    exact ⟨v1, M, rfl, h1, ⟨h2, fun _ => hM, fun h => absurd rfl h, 0, 0, by rw [hM, pol_nil, Ser.zero_mul], by rw [hM, pol_nil, Ser.zero_mul]⟩, h4⟩
  · refine (pMonic_yes p v xs w hp hv hx h0 hl (hF.unit_lead hx h0)).mono ?_
    rintro _ w' ⟨v1, M, rfl, h1, h2, h3, h4⟩
    have hm := minv_range p (lead xs) hp2.1
    have hli := hF.linv hp2.1 hx h0
    have hmo := monic_of hx h0 h2 h3 hli hm.1 hm.2
    refine ⟨v1, M, rfl, h1, ⟨h2, fun h => absurd h h0, fun _ => hmo, minv p (lead xs), lead xs, h3, ?_⟩, h4⟩
    rw [h3, Ser.mul_assoc, Ser.C_mul, Ser.C_congr (show minv p (lead xs) * lead xs % p = 1 % p by rw [Int.mul_comm, hli]; exact (mod_small (by omega) (by omega)).symm), Ser.C_one, Ser.mul_one]
variable {p : Int}
theorem MonicOf.gcd {xs M : List Int} (h : MonicOf p xs M) : IsGcd p xs xs M := by
  obtain ⟨c, d, e1, e2⟩ := h.eqn
  refine ⟨h.isp, fun h0 => (h.one (fun e => h0 (h.nil e))).2.1, ⟨Ser.C p d, Ser.poly_C d, by rw [Ser.mul_comm, ← e2]⟩, ⟨Ser.C p d, Ser.poly_C d, by rw [Ser.mul_comm, ← e2]⟩, ⟨Ser.C p c, 0, Ser.poly_C c, Ser.poly_zero, by rw [Ser.zero_mul, Ser.add_zero, Ser.mul_comm, ← e1]⟩⟩

/-- a least multiple -/
structure LcmOf (p : Int) (xs ys L : List Int) : Prop where
  isp : Pol p L
  nil : (xs = [] ∨ ys = []) → L = []
  one : xs ≠ [] → ys ≠ [] → L ≠ [] ∧ lead L = 1 ∧ ∃ G c, IsGcd p xs ys G ∧ pol p L * pol p G = Ser.C p c * (pol p xs * pol p ys)
theorem pLcm_any (p : Int) (v u : Value) (xs ys : List Int) (w : World) (hp : rightB p = true) (hF : Fld p) (hv : Ints .u64 w v xs) (hu : Ints .u64 w u ys) (hx : Pol p xs) (hy : Pol p ys) (hl : xs.length ≤ 512 ∧ ys.length ≤ 512) (hl2 : xs.length + ys.length ≤ 513) :
    Calls Tryz.prog 59 #[.int .u64 p, v, u] w fun e w' => ∃ v L, e = .returned (.tuple #[v, .int .i64 0]) ∧ Ints .u64 w' v L ∧ LcmOf p xs ys L ∧ Ext w w' := by
  refine (pLcm_yes p v u xs ys w hp hF hv hu hx hy hl hl2).mono ?_
  rintro _ w' ⟨v, L, rfl, h1, h2, h3, h4, h5⟩
  exact ⟨v, L, rfl, h1, ⟨h2, h3, h4⟩, h5⟩
theorem LcmOf.gne {A B G : List Int} (h : IsGcd p A B G) (hA : Pol p A) (hB : Pol p B) (a0 : A ≠ []) : G ≠ [] := fun e => a0 ((h.nil hA hB).1 e).1
theorem LcmOf.swap_eq (hF : Fld p) (hp : 2 ≤ p) {xs ys L K : List Int} (hx : Pol p xs) (hy : Pol p ys) (h : LcmOf p xs ys L) (h' : LcmOf p ys xs K) : L = K := by
  by_cases x0 : xs = []
  · rw [h.nil (.inl x0), h'.nil (.inr x0)]
  by_cases y0 : ys = []
  · rw [h.nil (.inr y0), h'.nil (.inl y0)]
  obtain ⟨l0, l1, G, c, g1, e1⟩ := h.one x0 y0
  obtain ⟨k0, k1, G', d, g2, e2⟩ := h'.one y0 x0
  obtain rfl : G' = G := g2.swap.unique hp g1
  exact lcm_unique hF hp h.isp h'.isp g1.isp l0 k0 (LcmOf.gne g1 hx hy x0) l1 k1 e1 (by rw [e2, Ser.mul_comm (pol p ys)])
theorem LcmOf.self (hF : Fld p) (hp : 2 ≤ p) {xs L M : List Int} (h : LcmOf p xs xs L) (hm : MonicOf p xs M) : L = M := by
  by_cases x0 : xs = []
  · rw [h.nil (.inl x0), hm.nil x0]
  obtain ⟨l0, l1, G, c, g1, e1⟩ := h.one x0 x0
  obtain rfl : G = M := g1.unique hp hm.gcd
  obtain ⟨m0, m1, _⟩ := hm.one x0
  obtain ⟨c', d, f1, f2⟩ := hm.eqn
  refine lcm_unique hF hp h.isp hm.isp hm.isp l0 m0 m0 l1 m1 e1 (c2 := c' * c') ?_
  rw [f1, ← Ser.C_mul]
  ac_rfl
theorem pol_one1 : pol p [1] = 1 := by rw [pol_single, Ser.C_one]
theorem LcmOf.unit (hF : Fld p) (hp : 2 ≤ p) {xs L M : List Int} (h : LcmOf p xs [1] L) (hm : MonicOf p xs M) : L = M := by
  by_cases x0 : xs = []
  · rw [h.nil (.inl x0), hm.nil x0]
  obtain ⟨l0, l1, G, c, g1, e1⟩ := h.one x0 (by simp)
  have p1 : Pol p [1] := Pol.one (by omega) (by omega)
  obtain rfl : G = [1] := g1.unique hp (IsGcd.of_dvd p1 rfl (pol_poly xs) (by rw [pol_one1, Ser.mul_one]))
  obtain ⟨m0, m1, _⟩ := hm.one x0
  obtain ⟨c', d, f1, f2⟩ := hm.eqn
  refine lcm_unique hF hp h.isp hm.isp p1 l0 m0 (by simp) l1 m1 e1 (c2 := c') ?_
  rw [f1]
  ac_rfl
theorem gcd_one (hp : 2 ≤ p) (xs : List Int) : IsGcd p xs [1] [1] := IsGcd.of_dvd (Pol.one (by omega) (by omega)) rfl (pol_poly xs) (by rw [pol_one1, Ser.mul_one])
end Go.Proofs.YtijpeepdedfhoaaGreat
/- Of what a greatest divisor is made, from Euclid's last step back (in plain Lean). -/
namespace Go.Proofs.YtijpeepdedfhoaaGreat
variable {p : Int}

/-- the two it is made of: from the last quotient back -/
def bz (c : Ser p) (l : List (List Int)) : Ser p × Ser p := l.foldl (fun st q => (st.2, st.1 - pol p q * st.2)) (c, 0)
theorem bz_snoc (c : Ser p) (l : List (List Int)) (q : List Int) : bz c (l ++ [q]) = ((bz c l).2, (bz c l).1 - pol p q * (bz c l).2) := by simp [bz]
theorem bz_rems {R Q : Nat → List Int} {k : Nat} (h : Rems p R Q k) {c : Ser p} (hc : c.low 1) : ∀ j i, i + j = k →
    (bz c ((List.range j).map fun x => Q (k - 1 - x))).1 * pol p (R i) + (bz c ((List.range j).map fun x => Q (k - 1 - x))).2 * pol p (R (i + 1)) = c * pol p (R k) ∧
    (bz c ((List.range j).map fun x => Q (k - 1 - x))).1.low (max 1 (R (i + 1)).length) ∧ (bz c ((List.range j).map fun x => Q (k - 1 - x))).2.low (max 1 (R i).length)
  | 0, i, e => by
    obtain rfl : i = k := by omega
    refine ⟨?_, hc.mono (by omega), Ser.low_zero _⟩
    show c * pol p (R i) + 0 * pol p (R (i + 1)) = _
    rw [Ser.zero_mul, Ser.add_zero]
  | j + 1, i, e => by
    obtain ⟨e1, l1, l2⟩ := bz_rems h hc j (i + 1) (by omega)
    have hi : i < k := by omega
    rw [List.range_succ, List.map_append, List.map_cons, List.map_nil, bz_snoc, show k - 1 - j = i by omega]
    generalize bz c ((List.range j).map fun x => Q (k - 1 - x)) = st at *
    obtain ⟨s, t⟩ := st
    dsimp only at *
    have hd := h.dec i hi
    have hq := h.qln i hi
    refine ⟨?_, l2, ?_⟩
    · rw [h.eqn i hi, ← e1]
      have e2 : s - pol p (Q i) * t + pol p (Q i) * t = s := Ser.sub_add _ _
      conv => rhs; rw [← e2]
      rw [Ser.add_mul, Ser.mul_add]
      ac_rfl
    · have hQt : (pol p (Q i) * t).low (max 1 (R i).length) := by
        by_cases hz : (Q i).length = 0
        · rw [List.eq_nil_of_length_eq_zero hz, pol_nil, Ser.zero_mul]; exact Ser.low_zero _
        · exact ((pol_low (Q i)).mul l2).mono (by omega)
      have hs : s.low (max 1 (R i).length) := by
        refine l1.mono ?_
        by_cases hz : (Q i).length = 0
        · have e3 := h.eqn i hi
          rw [List.eq_nil_of_length_eq_zero hz, pol_nil, Ser.zero_mul, Ser.zero_add] at e3
          rw [(h.isp i (by omega)).inj (h.isp (i + 2) (by omega)) e3]
          exact Nat.le_refl _
        · have : (R (i + 1 + 1)).length = (R (i + 2)).length := rfl
          omega
      exact hs.sub hQt
theorem qs_back (qs : List (Value × List Int)) : (qs.map (·.2)).reverse = (List.range qs.length).map fun x => qAt qs (qs.length - 1 - x) := by
  refine List.ext_getElem (by simp) fun i h1 h2 => ?_
  simp at h1
  simp [qAt, List.getD, show qs.length - 1 - i < qs.length by omega]
end Go.Proofs.YtijpeepdedfhoaaGreat
